import PyProof.Rows.All
import Wide.All
import OpenK.AllK
import Wide.FinOn
import Lean
import PyProof.EqAt
import PyProof.EqKinds
import PyProof.TupleCall
import PyProof.NeKinds
import PySem.Challenge.RW_latticeworks_k09_whole_measures_and_turn
set_option Elab.async false
set_option linter.all false
set_option maxRecDepth 100000
namespace L2
open PySem PySem.Spec PyProof.Rows
abbrev Key := Sum Int Str
def keyIs : Key → Value → Bool
  | .inl k, v => Value.isInt k v
  | .inr x, v => Value.isStrOf x v
def keyH (w : World) : Key → Int
  | .inl k => hashInt k
  | .inr x => hashStr w x
theorem keyIs_shape : ∀ {k : Key} {v : Value}, keyIs k v = true → (∃ i t, k = Sum.inl i ∧ v = Value.int i t) ∨ (∃ x t, k = Sum.inr x ∧ v = Value.str x t)
  | .inl i, v, h => by
    obtain ⟨t, e⟩ := Value.isInt_shape (k := i) (v := v) h
    exact .inl ⟨i, t, rfl, e⟩
  | .inr x, v, h => by
    obtain ⟨t, e⟩ := Value.isStrOf_shape (x := x) (v := v) h
    exact .inr ⟨x, t, rfl, e⟩
theorem key_ll (a b : Int) : decide ((Sum.inl a : Key) = Sum.inl b) = (a == b) := by
  by_cases e : a = b
  · subst e; simp
  · have h : ¬ (Sum.inl a : Key) = Sum.inl b := fun q => e (Sum.inl.inj q)
    rw [decide_eq_false h]
    exact (beq_eq_false_iff_ne.mpr e).symm
theorem key_rr (a b : Str) : decide ((Sum.inr a : Key) = Sum.inr b) = decide (a = b) := by
  by_cases e : a = b
  · subst e; simp
  · have h : ¬ (Sum.inr a : Key) = Sum.inr b := fun q => e (Sum.inr.inj q)
    rw [decide_eq_false h, decide_eq_false e]
theorem key_lr (a : Int) (b : Str) : decide ((Sum.inl a : Key) = Sum.inr b) = false := decide_eq_false (fun q => nomatch q)
theorem key_rl (a : Str) (b : Int) : decide ((Sum.inr a : Key) = Sum.inl b) = false := decide_eq_false (fun q => nomatch q)
def mixKind (prog : Program) (w : World) : PySem.KeyKind prog w Key where
  is := keyIs
  hash := keyH w
  inj := fun v a b ha hb => by
    rcases keyIs_shape ha with ⟨i, t, rfl, rfl⟩ | ⟨x, t, rfl, rfl⟩
    · rcases keyIs_shape hb with ⟨j, u, rfl, e⟩ | ⟨y, u, rfl, e⟩
      · injection e with e1 _; rw [e1]
      · exact nomatch e
    · rcases keyIs_shape hb with ⟨j, u, rfl, e⟩ | ⟨y, u, rfl, e⟩
      · exact nomatch e
      · injection e with e1 _; rw [e1]
  byValue := fun k v h => by
    rcases keyIs_shape h with ⟨i, t, rfl, rfl⟩ | ⟨x, t, rfl, rfl⟩ <;> rfl
  pyHash := fun hv h => by
    rcases keyIs_shape hv with ⟨i, t, rfl, rfl⟩ | ⟨x, t, rfl, rfl⟩
    · exact wpAny_pyHash_int h
    · exact wpAny_pyHash_str h
  eqBool := fun hu hv h => by
    rcases keyIs_shape hu with ⟨i, t, rfl, rfl⟩ | ⟨x, t, rfl, rfl⟩
    · rcases keyIs_shape hv with ⟨j, u, rfl, rfl⟩ | ⟨y, u, rfl, rfl⟩
      · rw [key_ll] at h; exact wpAny_eqBool_int h
      · rw [key_lr] at h; exact SeqAt.EqAt.int_str i t y u _ _ _ _ h
    · rcases keyIs_shape hv with ⟨j, u, rfl, rfl⟩ | ⟨y, u, rfl, rfl⟩
      · rw [key_rl] at h; exact SeqAt.EqAt.str_int x t j u _ _ _ _ h
      · rw [key_rr] at h; exact wpAny_eqBool_str h
  «strs» := fun k x t v h => by
    rcases keyIs_shape h with ⟨i, u, rfl, e⟩ | ⟨y, u, rfl, e⟩
    · exact nomatch e
    · injection e with e1 _
      subst e1
      cases v <;> rfl
end L2
namespace L2
open PySem PySem.Spec PyProof.Rows
inductive V where
  | non | bl (b : Bool) | int (i : Int) | str (x : Str) | byt (b : Array UInt8) | flt (b : UInt64) | ref (a : Addr) | ty (n : String)
  deriving DecidableEq
def RelV : V → Value → Prop
  | .non, u => u = Value.none
  | .bl b, u => u = Value.bool b
  | .int i, u => ∃ t, u = Value.int i t
  | .str x, u => ∃ t, u = Value.str x t
  | .byt b, u => ∃ t, u = Value.bytes b t
  | .flt b, u => ∃ t, u = Value.float b t
  | .ref a, u => u = Value.ref a
  | .ty n, u => u = Value.type n
abbrev Vals : List V → List Value → Prop := Paired RelV
theorem Vals.length {xs : List V} {us : List Value} (r : Vals xs us) : xs.length = us.length := Paired.length r
theorem Vals.get : ∀ {xs : List V} {us : List Value} {i : Nat} {x : V}, Vals xs us → xs[i]? = some x → ∃ u, us[i]? = some u ∧ RelV x u
  | _, _, _, _, .nil, e => by simp at e
  | _, _, 0, _, .cons r _, e => by simp at e; subst e; exact ⟨_, rfl, r⟩
  | _, _, i + 1, x, .cons _ t, e => by
    obtain ⟨u, h1, h2⟩ := Vals.get (i := i) (x := x) t (by simpa using e)
    exact ⟨u, by simpa using h1, h2⟩
theorem Vals.set {x : V} {u : Value} (r : RelV x u) : ∀ {xs : List V} {us : List Value} (i : Nat), Vals xs us → Vals (xs.set i x) (us.set i u)
  | _, _, _, .nil => .nil
  | _, _, 0, .cons _ t => .cons r t
  | _, _, i + 1, .cons q t => .cons q (Vals.set r i t)
theorem Vals.append : ∀ {xs ys : List V} {us ws : List Value}, Vals xs us → Vals ys ws → Vals (xs ++ ys) (us ++ ws)
  | _, _, _, _, .nil, s => s
  | _, _, _, _, .cons r t, s => .cons r (Vals.append t s)
theorem Vals.take : ∀ {xs : List V} {us : List Value} (n : Nat), Vals xs us → Vals (xs.take n) (us.take n)
  | _, _, 0, _ => .nil
  | _, _, _ + 1, .nil => .nil
  | _, _, n + 1, .cons r t => .cons r (Vals.take n t)
theorem Vals.drop : ∀ {xs : List V} {us : List Value} (n : Nat), Vals xs us → Vals (xs.drop n) (us.drop n)
  | _, _, 0, r => r
  | _, _, _ + 1, .nil => .nil
  | _, _, n + 1, .cons _ t => Vals.drop n t
def RelO : Option V → Option Value → Prop
  | some v, some u => RelV v u
  | none, none => True
  | _, _ => False
def KV {κ : Type} : List (κ × V) → List (κ × Value) → Prop := Paired fun (p : κ × V) (q : κ × Value) => p.1 = q.1 ∧ RelV p.2 q.2
def kV : Key → V
  | .inl i => .int i
  | .inr x => .str x
inductive HO where
    | lst (xs : List V)
    | tup (xs : List V)
    | dK (kvs : List (Key × V)) | dT (kvs : List (List Key × V))
    | set (S : Int → Bool) (n : Nat)
    | ins (C dx : Addr) (fs : List (Str × V))
    | own (x : Addr)
    | xd (fs : List (Str × V))
    | met (f x : Addr)
    | rng (lo hi : Int)
    | frz (o : Obj) (u : HO)
    | tbl (ps : Array Value)
    | ext (φ : Heap → Prop)
abbrev Hp := Addr → Option HO
def upd (H : Hp) (a : Addr) (o : HO) : Hp := fun b => if b = a then some o else H b
theorem upd_same {H : Hp} {a : Addr} {o : HO} : upd H a o a = some o := by unfold upd; rw [if_pos rfl]
theorem upd_ne {H : Hp} {a b : Addr} {o : HO} (h : b ≠ a) : upd H a o b = H b := by unfold upd; rw [if_neg h]
theorem upd_upd {H : Hp} {a : Addr} {o u : HO} : upd (upd H a o) a u = upd H a u := by
  funext b; unfold upd; split <;> rfl
theorem ne_of_none {H : Hp} {a b : Addr} {o : HO} (h : H a = some o) (h' : H b = none) : a ≠ b := by
  intro e; subst e; rw [h] at h'; cases h'
section
variable (P : Program) (w : World)
def ObjOk (H : Hp) (h : Heap) (a : Addr) : HO → Prop
  | .lst xs => xs.length ≤ sizeLine ∧ ∃ (its : List Value) (n : Nat), Vals xs its ∧ h.get? a = some { cls := .type "list", data := .seq its.toArray n }
  | .tup xs => xs.length ≤ sizeLine ∧ ∃ its : List Value, Vals xs its ∧ IsTup h a its.toArray
  | .dK kvs => kvs.length ≤ sizeLine ∧ (a == sysModules) = false ∧ ∃ vs, KV kvs vs ∧ h.DictOf (mixKind P w) a vs
  | .dT kvs => kvs.length ≤ sizeLine ∧ (a == sysModules) = false ∧ ∃ xs : List (List Key × Addr × Value),
      Paired (fun (p : List Key × V) (q : List Key × Addr × Value) => p.1 = q.1 ∧ H q.2.1 = some (.tup (p.1.map kV)) ∧ RelV p.2 q.2.2) kvs xs ∧
      ∃ o es ep, h.get? a = some o ∧ o.ExactDict ∧ o.data = .dict es ep ∧ es.toList = xs.map (entryOfKey (tupleKind (mixKind P w))) ∧ (xs.map (·.1)).Nodup
  | .set S n => h.SetOf (intKind P w) a S n
  | .ins C dx fs => H dx = some (.own a) ∧ fs.length ≤ 1000 ∧ dx ≠ a ∧ h.get? a = some (PySem.W.instObj C dx) ∧
      ∃ mA, h.Ns1 dx mA ∧ (∀ f, RelO (fs.lookup f) (mA f)) ∧ PySem.Within mA (fs.map (·.1))
  | .own _ => ∃ o, h.get? a = some o
  | .xd fs => ∃ mA, h.Ns1 a mA ∧ ∀ f, RelO (fs.lookup f) (mA f)
  | .rng lo hi => ∃ t u v, h.get? a = some { cls := .type "range", data := .fields #[.int lo t, .int hi u, .int 1 v] }
  | .frz o u => h.get? a = some o ∧ ObjOk H h a u
  | .tbl ps => h.get? a = some { cls := .none, data := .fields ps }
  | .met f x => h.get? a = some (PySem.W.methodObj (.ref f) (.ref x))
  | .ext φ => φ h ∧ (∃ o, h.get? a = some o) ∧ ∀ h1 h2 : Heap, φ h1 → (∀ o, h1.get? a = some o → h2.get? a = some o) → φ h2
def HOk (H : Hp) (h : Heap) : Prop := ∀ a o, H a = some o → ObjOk P w H h a o
end
section
variable {P : Program} {w : World} {H H' : Hp} {h h' : Heap} {a : Addr} {o : HO}
theorem ObjOk.lt (x : ObjOk P w H h a o) : a < h.objs.size := by
  cases o with
  | lst xs => obtain ⟨_, _, _, _, e⟩ := x; exact Heap.lt_size e
  | tup xs => obtain ⟨_, _, _, p⟩ := x; exact p.lt
  | dK kvs => obtain ⟨_, _, _, _, o, _, _, e, _⟩ := x; exact Heap.lt_size e
  | dT kvs => obtain ⟨_, _, _, _, o, _, _, e, _⟩ := x; exact Heap.lt_size e
  | set S n => obtain ⟨o, _, _, _, e, _⟩ := x; exact Heap.lt_size e
  | ins C dx fs => obtain ⟨_, _, _, e, _⟩ := x; exact Heap.lt_size e
  | own y => obtain ⟨_, e⟩ := x; exact Heap.lt_size e
  | xd fs => obtain ⟨_, ⟨_, _, _, e, _⟩, _⟩ := x; exact Heap.lt_size e
  | rng lo hi => obtain ⟨_, _, _, e⟩ := x; exact Heap.lt_size e
  | frz ob u => obtain ⟨e, _⟩ := x; exact Heap.lt_size e
  | tbl ps => exact Heap.lt_size (show h.get? a = some _ from x)
  | met f y => exact Heap.lt_size (show h.get? a = some _ from x)
  | ext φ => obtain ⟨_, ⟨_, e⟩, _⟩ := x; exact Heap.lt_size e
theorem Paired.mapP {α β : Type} {F G : α → β → Prop} : ∀ {l₁ : List α} {l₂ : List β}, Paired F l₁ l₂ → (∀ a b, F a b → G a b) → Paired G l₁ l₂
  | _, _, .nil, _ => .nil
  | _, _, .cons r t, f => .cons (f _ _ r) (Paired.mapP t f)
theorem ObjOk.stay (x : ObjOk P w H h a o) (k : ∀ b u, (b = a ∨ H b = some (.own a)) → h.get? b = some u → h'.get? b = some u)
    (ho : ∀ b, H b = some (.own a) → H' b = some (.own a)) (ht : ∀ b xs, H b = some (.tup xs) → H' b = some (.tup xs)) : ObjOk P w H' h' a o := by
  induction o with
  | lst xs => obtain ⟨z, its, n, r, e⟩ := x; exact ⟨z, its, n, r, k _ _ (.inl rfl) e⟩
  | tup xs => obtain ⟨z, its, r, ob, e, c⟩ := x; exact ⟨z, its, r, ob, k _ _ (.inl rfl) e, c⟩
  | dK kvs => obtain ⟨z, y, vs, r, ob, es, ep, e, c⟩ := x; exact ⟨z, y, vs, r, ob, es, ep, k _ _ (.inl rfl) e, c⟩
  | dT kvs =>
    obtain ⟨z, y, xs, r, ob, es, ep, e, c⟩ := x
    exact ⟨z, y, xs, Paired.mapP r fun p q z => ⟨z.1, ht _ _ z.2.1, z.2.2⟩, ob, es, ep, k _ _ (.inl rfl) e, c⟩
  | set S n => obtain ⟨ob, es, ep, t, e, c⟩ := x; exact ⟨ob, es, ep, t, k _ _ (.inl rfl) e, c⟩
  | ins C dx fs =>
    obtain ⟨d, z, ne, e, mA, ⟨od, es, ep, e2, c⟩, r⟩ := x
    exact ⟨ho _ d, z, ne, k _ _ (.inl rfl) e, mA, ⟨od, es, ep, k _ _ (.inr d) e2, c⟩, r⟩
  | own y => obtain ⟨ob, e⟩ := x; exact ⟨ob, k _ _ (.inl rfl) e⟩
  | xd fs => obtain ⟨mA, ⟨od, es, ep, e, c⟩, r⟩ := x; exact ⟨mA, ⟨od, es, ep, k _ _ (.inl rfl) e, c⟩, r⟩
  | rng lo hi => obtain ⟨t, u, v, e⟩ := x; exact ⟨t, u, v, k _ _ (.inl rfl) e⟩
  | frz ob u ih => obtain ⟨e, q⟩ := x; exact ⟨k _ _ (.inl rfl) e, ih q⟩
  | tbl ps =>
    have e : h.get? a = some { cls := .none, data := .fields ps } := x
    show h'.get? a = some { cls := .none, data := .fields ps }
    exact k a _ (.inl rfl) e
  | met f y =>
    have e : h.get? a = some (PySem.W.methodObj (.ref f) (.ref y)) := x
    show h'.get? a = some (PySem.W.methodObj (.ref f) (.ref y))
    exact k a _ (.inl rfl) e
  | ext φ => obtain ⟨p, ⟨o, e⟩, st⟩ := x; exact ⟨st _ _ p fun o q => k _ _ (.inl rfl) q, ⟨o, k _ _ (.inl rfl) e⟩, st⟩
theorem HOk.lt (x : HOk P w H h) (e : H a = some o) : a < h.objs.size := (x a o e).lt
theorem HOk.fresh (x : HOk P w H h) (e : h.objs.size ≤ a) : H a = none := by
  cases q : H a with
  | none => rfl
  | some u => exact absurd (Nat.lt_of_lt_of_le (x.lt q) e) (Nat.lt_irrefl _)
theorem HOk.kept (x : HOk P w H h) (k : ∀ b u, h.get? b = some u → h'.get? b = some u) : HOk P w H h' := fun a o e =>
  (x a o e).stay (fun b u _ q => k b u q) (fun _ q => q) fun _ _ q => q
theorem HOk.laid (x : HOk P w H h) (k : ∀ b u, h.get? b = some u → h'.get? b = some u) (hp : h.objs.size ≤ a) (new : ObjOk P w (upd H a o) h' a o) : HOk P w (upd H a o) h' := fun b u e => by
  have hn := x.fresh hp
  by_cases hb : b = a
  · subst hb; rw [upd_same] at e; cases e; exact new
  · rw [upd_ne hb] at e
    exact (x b u e).stay (fun c v _ q => k c v q) (fun c q => by rw [upd_ne (ne_of_none q hn)]; exact q) fun c xs q => by rw [upd_ne (ne_of_none q hn)]; exact q
end
def Rd (H : Hp) (a : Addr) (u : HO) : Prop := H a = some u ∨ ∃ o, H a = some (.frz o u)
theorem Rd.of {H : Hp} {a : Addr} {u : HO} (h : H a = some u) : Rd H a u := .inl h
theorem Rd.ok {P : Program} {w : World} {H : Hp} {h : Heap} {a : Addr} {u : HO} (r : Rd H a u) (x : HOk P w H h) : ObjOk P w H h a u := by
  rcases r with r | ⟨o, r⟩
  · exact x a u r
  · obtain ⟨_, q⟩ := x a _ r
    exact q
def Mut : Option HO → Prop
  | some (.lst _) => True
  | some (.dK _) => True
  | some (.dT _) => True
  | some (.set _ _) => True
  | some (.ins _ _ _) => True
  | some (.ext _) => True
  | _ => False
section
variable {P : Program} {w : World} {H : Hp} {h h' : Heap} {x e : Addr} {o' : HO}
theorem HOk.write (ok : HOk P w H h) (mu : Mut (H x)) (he : e = x ∨ H e = some (.own x)) (k : ∀ b u, b ≠ e → h.get? b = some u → h'.get? b = some u) (heo : ∃ u, h'.get? e = some u)
    (new : ObjOk P w (upd H x o') h' x o') : HOk P w (upd H x o') h' := fun b u q => by
  have nown : ∀ c y, H c = some (.own y) → c ≠ x := fun c y r z => by subst z; rw [r] at mu; exact mu
  have ntup : ∀ c xs, H c = some (.tup xs) → c ≠ x := fun c xs r z => by subst z; rw [r] at mu; exact mu
  by_cases hb : b = x
  · subst hb; rw [upd_same] at q; cases q; exact new
  · rw [upd_ne hb] at q
    by_cases hbe : b = e
    · have q' : H b = some (.own x) := by
        rcases he with z | z
        · exact absurd (hbe.trans z) hb
        · rw [hbe]; exact z
      rw [q] at q'; cases q'
      obtain ⟨v, hv⟩ := heo
      exact ⟨v, by rw [hbe]; exact hv⟩
    · refine (ok b u q).stay (fun c v hc r => k c v ?_ r) (fun c r => by rw [upd_ne (nown c b r)]; exact r) fun c xs r => by rw [upd_ne (ntup c xs r)]; exact r
      rcases hc with rfl | hc
      · exact hbe
      · rintro rfl
        rcases he with z | z
        · exact nown c b hc z
        · rw [hc] at z; cases z; exact hb rfl
end
structure Un (fs ex : List Addr) (H H' : Hp) (h h' : Heap) : Prop where
  keep : ∀ b o, h.get? b = some o → H b = none → b ∉ fs → b ∉ ex → h'.get? b = some o
  slot : ∀ b o, h.get? b = some o → H b = none → b ∈ fs → b ∉ ex → ∃ sl, h'.get? b = some { o with slots := sl }
  free : ∀ b o, h.get? b = some o → H b = none → b ∉ ex → H' b = none
  there : ∀ b o, h.get? b = some o → b ∉ ex → ∃ o', h'.get? b = some o'
  tups : ∀ b xs, H b = some (.tup xs) → H' b = some (.tup xs)
  frzs : ∀ b o u, H b = some (.frz o u) → H' b = some (.frz o u)
  tbls : ∀ b ps, H b = some (.tbl ps) → ∃ more, H' b = some (.tbl (ps ++ more))
section
variable {fs fs' ex ex' : List Addr} {H H1 H2 : Hp} {h h1 h2 h' : Heap} {a x e : Addr} {o : HO}
theorem Un.any (u : Un fs ex H H1 h h1) {b : Addr} {ob : Obj} (q : h.get? b = some ob) (n : H b = none) (hx : b ∉ ex) : ∃ sl, h1.get? b = some { ob with slots := sl } := by
  by_cases hb : b ∈ fs
  · exact u.slot b ob q n hb hx
  · exact ⟨ob.slots, u.keep b ob q n hb hx⟩
theorem Un.trans (a : Un fs ex H H1 h h1) (b : Un fs ex H1 H2 h1 h2) : Un fs ex H H2 h h2 where
  keep := fun c ob q n hc hx => b.keep c ob (a.keep c ob q n hc hx) (a.free c ob q n hx) hc hx
  slot := fun c ob q n hc hx => by
    obtain ⟨sl, e1⟩ := a.slot c ob q n hc hx
    obtain ⟨sl', e2⟩ := b.slot c _ e1 (a.free c ob q n hx) hc hx
    exact ⟨sl', e2⟩
  free := fun c ob q n hx => by
    obtain ⟨o', e1⟩ := a.there c ob q hx
    exact b.free c o' e1 (a.free c ob q n hx) hx
  there := fun c ob q hx => by
    obtain ⟨o', e1⟩ := a.there c ob q hx
    exact b.there c o' e1 hx
  tups := fun c xs q => b.tups c xs (a.tups c xs q)
  frzs := fun c ob xs q => b.frzs c ob xs (a.frzs c ob xs q)
  tbls := fun c ps q => by
    obtain ⟨m1, e1⟩ := a.tbls c ps q
    obtain ⟨m2, e2⟩ := b.tbls c _ e1
    exact ⟨m1 ++ m2, by rw [e2, Array.append_assoc]⟩
theorem Un.kept (k : ∀ b u, h.get? b = some u → h'.get? b = some u) : Un fs ex H H h h' :=
  ⟨fun b ob q _ _ _ => k b ob q, fun b ob q _ _ _ => ⟨ob.slots, k b ob q⟩, fun _ _ _ n _ => n, fun b ob q _ => ⟨ob, k b ob q⟩, fun _ _ q => q, fun _ _ _ q => q, fun _ ps q => ⟨#[], by rw [q]; simp⟩⟩
theorem Un.refl : Un fs ex H H h h := Un.kept fun _ _ q => q
theorem Un.laid (k : ∀ b u, h.get? b = some u → h'.get? b = some u) (hp : h.objs.size ≤ a) (hn : H a = none) : Un fs ex H (upd H a o) h h' where
  keep := fun b u q _ _ _ => k b u q
  slot := fun b u q _ _ _ => ⟨u.slots, k b u q⟩
  free := fun b u q n _ => by rw [upd_ne (Nat.ne_of_lt (Nat.lt_of_lt_of_le (Heap.lt_size q) hp))]; exact n
  there := fun b u q _ => ⟨u, k b u q⟩
  tups := fun b xs q => by rw [upd_ne (ne_of_none q hn)]; exact q
  frzs := fun b u xs q => by rw [upd_ne (ne_of_none q hn)]; exact q
  tbls := fun b ps q => ⟨#[], by rw [upd_ne (ne_of_none q hn), q]; simp⟩
theorem Un.write (mu : Mut (H x)) (he : e = x ∨ H e = some (.own x)) (k : ∀ b u, b ≠ e → h.get? b = some u → h'.get? b = some u) (heo : ∃ u, h'.get? e = some u) : Un fs ex H (upd H x o) h h' := by
  have hx : ∀ b, H b = none → b ≠ x := fun b n z => by subst z; rw [n] at mu; exact mu
  have hb : ∀ b, H b = none → b ≠ e := fun b n z => by
    subst z
    rcases he with r | r
    · exact hx b n r
    · rw [n] at r; cases r
  have hm : ∀ b u, H b = some u → ¬ Mut (some u) → b ≠ x := fun b u q nm z => by subst z; rw [q] at mu; exact nm mu
  refine ⟨fun b u q n _ _ => k b u (hb b n) q, fun b u q n _ _ => ⟨u.slots, k b u (hb b n) q⟩, fun b u q n _ => by rw [upd_ne (hx b n)]; exact n, fun b u q _ => ?_,
    fun b xs q => by rw [upd_ne (hm b _ q fun z => z)]; exact q, fun b u xs q => by rw [upd_ne (hm b _ q fun z => z)]; exact q, fun b ps q => ⟨#[], by rw [upd_ne (hm b _ q fun z => z), q]; simp⟩⟩
  by_cases hbe : b = e
  · subst hbe; exact heo
  · exact ⟨u, k b u hbe q⟩
theorem Un.mono (u : Un fs ex H H1 h h1) (hs : ∀ b ∈ fs, b ∈ fs') (hx : ∀ b ∈ ex, b ∈ ex') : Un fs' ex' H H1 h h1 :=
  ⟨fun b ob q n hb he => u.keep b ob q n (fun z => hb (hs b z)) fun z => he (hx b z), fun _ _ q n _ he => u.any q n fun z => he (hx _ z), fun b ob q n he => u.free b ob q n fun z => he (hx b z), fun b ob q he => u.there b ob q fun z => he (hx b z), u.tups, u.frzs, u.tbls⟩
end
def trk (h : Heap) (H : Hp) : List Addr := (List.range h.objs.size).filter fun a => (H a).isSome
def hidT (h : Heap) (H : Hp) : Heap := PySem.W.hideAll h (trk h H)
theorem hidT_size (h : Heap) (H : Hp) : (hidT h H).objs.size = h.objs.size := PySem.W.hideAll_size _ _
theorem hidT_get {h : Heap} {H : Hp} {b : Addr} {o : Obj} (e : h.get? b = some o) (n : H b = none) : (hidT h H).get? b = some o :=
  PySem.W.hideAll_get _ e fun hm => by
    have q : (H b).isSome = true := (List.mem_filter.mp hm).2
    rw [n] at q; simp at q
theorem of_hidT {h : Heap} {H : Hp} {b : Addr} {o : Obj} (e : (hidT h H).get? b = some o) : h.get? b = some o ∧ H b = none := by
  have e' : h.get? b = some o := PySem.W.of_hideAll (trk h H) e
  refine ⟨e', ?_⟩
  cases q : H b with
  | none => rfl
  | some x =>
    have hm : b ∈ trk h H := List.mem_filter.mpr ⟨List.mem_range.mpr (Heap.lt_size e'), by simp [q]⟩
    have z : (hidT h H).get? b = none := PySem.W.hideAll_none (trk h H) hm
    rw [z] at e; cases e
def allNews (g h : Heap) (L : Addr) : List (Addr × Obj) := (List.range h.objs.size).filterMap fun a => if a = L ∨ (g.get? a).isSome = true then none else (h.get? a).map fun o => (a, o)
def rest (g h : Heap) (L d : Addr) : List (Addr × Obj) := (allNews g h L).filter fun p => decide (p.1 ≠ d)
end L2
namespace L2
open PySem PySem.Spec PyProof.Rows
structure Mod (K : PySem.W.Frag) (mg : Str → Option Value) (base : Heap) : Prop where
  kin : K.In base
  glob : base.Ns mainGlobals mg
  blt : ∃ mb, base.Ns builtinsNs mb ∧ ∀ x : Str, x ≠ "__name__" → mb x = bootBuiltins x
  nolimit : base.NoLimit
structure Cx where
  prog : Program
  w : World
  K : PySem.W.Frag
  mg : Str → Option Value
  base : Heap
  A : Around
  N : List Str
  s₀ : Shared
  H₀ : Hp
  env : Env
  outer : List Env
  stack : List Env
  ex : List Addr
  fn : Str → Bool
  calm : Bool
  pn : List (Addr × Obj)
  xe : Value → Shared → Prop
def frs (l : List Env) : List Addr := l.filterMap (·.frame)
abbrev Cx.fs (X : Cx) : List Addr := frs X.outer
def Vis (sc : Scope) (x : Str) : Prop := sc.names.lookup x = some .local ∨ sc.names.lookup x = some .cell ∨ sc.names.lookup x = some .free
def Loc (sc : Scope) (x : Str) : Prop := sc.names.lookup x = some .local ∨ sc.names.lookup x = some .cell
def Look (env : Env) (h : Heap) (m : Str → Option Value) (x : Str) (u : Value) : Prop :=
  (env.kindOf x = some .local ∧ m x = some u) ∨ ((env.kindOf x = some .cell ∨ env.kindOf x = some .free) ∧ ∃ c, env.cells.lookup x = some c ∧ h.IsCell c (some u))
structure Cx.Ok (X : Cx) : Prop where
  mod : Mod X.K X.mg X.base
  kind : X.env.scope.kind = .function
  glob : X.env.globals = mainGlobals
  blt : X.env.builtins = builtinsNs
  above : X.s₀.heap.objs.size ≤ X.env.locals
  inj : ∀ x y c, X.env.cells.lookup x = some c → X.env.cells.lookup y = some c → x = y
  has : ∀ x, (X.env.kindOf x = some .cell ∨ X.env.kindOf x = some .free) → ∃ c, X.env.cells.lookup x = some c
  cab : ∀ x c, X.fn x = true → X.env.cells.lookup x = some c → X.s₀.heap.objs.size ≤ c
  hd : X.calm = true → X.A.handled = none
  frames : X.A.frames = some X.stack
  stk : X.stack = X.outer ∨ (X.stack = X.env :: X.outer ∧ X.env.frame = some X.env.locals)
  exf : ∀ b ∈ X.ex, b ≠ X.env.locals ∧ ∀ x c, X.env.cells.lookup x = some c → c ≠ b
  bs : ∀ b o, X.base.get? b = some o → X.s₀.heap.get? b = some o ∧ X.H₀ b = none
  bsz : X.base.objs.size ≤ X.s₀.heap.objs.size
  noex : ∀ b o, X.base.get? b = some o → b ∉ X.ex
  exfs : ∀ b ∈ X.ex, b ∉ X.fs
  funs : X.s₀.heap.FunFrames X.base X.outer
  frf : ∀ b ∈ X.fs, X.H₀ b = none
structure Inv (X : Cx) (pins : List (Addr × Obj)) (σ : List (Option V)) (H : Hp) (s : Shared) : Prop where
  ok : X.Ok
  os : s.os = X.s₀.os
  bare : AllBare s.gens
  base : Un X.fs X.ex X.H₀ H X.s₀.heap s.heap
  loc : ∃ m, s.heap.Ns X.env.locals m ∧ ∀ (i : Nat) (x : Str) (v : V), X.N[i]? = some x → σ[i]? = some (some v) → Vis X.env.scope x → ∃ u, RelV v u ∧ Look X.env s.heap m x u
  cell : ∀ x c, X.env.cells.lookup x = some c → ∃ v, s.heap.IsCell c v
  free : H X.env.locals = none
  freeC : ∀ x c, X.env.cells.lookup x = some c → H c = none
  pin : ∀ p ∈ X.pn ++ pins, s.heap.get? p.1 = some p.2 ∧ H p.1 = none ∧ p.1 ≠ X.env.locals ∧ p.1 ∉ X.fs ∧ ∀ v, p.2.data ≠ .cell v
  hok : HOk X.prog X.w H s.heap
  len : σ.length = X.N.length
section
variable {X : Cx} {pins : List (Addr × Obj)} {σ : List (Option V)} {H H' : Hp} {s : Shared} {h' : Heap}
theorem Cx.Ok.nofr (ok : X.Ok) {b : Addr} {o : Obj} (e : X.base.get? b = some o) : b ∉ X.fs := fun hb => by
  have := (ok.funs.mem hb).1
  rw [e] at this; cases this
theorem Inv.bs (I : Inv X pins σ H s) : ∀ b o, X.base.get? b = some o → s.heap.get? b = some o ∧ H b = none := fun b o e =>
  ⟨I.base.keep b o (I.ok.bs b o e).1 (I.ok.bs b o e).2 (I.ok.nofr e) (I.ok.noex b o e), I.base.free b o (I.ok.bs b o e).1 (I.ok.bs b o e).2 (I.ok.noex b o e)⟩
theorem Inv.bk (I : Inv X pins σ H s) : ∀ b o, X.base.get? b = some o → s.heap.get? b = some o := fun b o e => (I.bs b o e).1
theorem Inv.mod (I : Inv X pins σ H s) : Mod X.K X.mg X.base := I.ok.mod
theorem Inv.kIn (I : Inv X pins σ H s) : X.K.In s.heap := I.ok.mod.kin.keeps I.bk
theorem Inv.nolimit (I : Inv X pins σ H s) : s.heap.NoLimit := I.ok.mod.nolimit.keeps I.bk
theorem Inv.fr (I : Inv X pins σ H s) : ∃ m, Fr X.base X.env.locals s.heap m :=
  let ⟨m, hn, _⟩ := I.loc
  ⟨m, hn, I.bk, Nat.le_trans I.ok.bsz I.ok.above⟩
theorem Inv.lt (I : Inv X pins σ H s) : X.env.locals < s.heap.objs.size := let ⟨_, hn, _⟩ := I.loc; hn.lt
theorem Inv.sz (I : Inv X pins σ H s) : X.s₀.heap.objs.size ≤ s.heap.objs.size := Nat.le_trans I.ok.above (Nat.le_of_lt I.lt)
theorem Inv.nofs (I : Inv X pins σ H s) {a : Addr} (h : s.heap.objs.size ≤ a) : a ∉ X.fs := fun hb => by
  obtain ⟨_, o, ho, _⟩ := I.ok.funs.mem hb
  exact absurd (Nat.lt_of_lt_of_le (Heap.lt_size ho) (Nat.le_trans I.sz h)) (Nat.lt_irrefl _)
theorem Inv.cne (I : Inv X pins σ H s) : ∀ x c, X.env.cells.lookup x = some c → c ≠ X.env.locals := fun x c e z => by
  obtain ⟨v, o, ho, hd⟩ := I.cell x c e
  obtain ⟨m, ⟨o', es, ep, ho', hd', _⟩, _⟩ := I.loc
  rw [z, ho'] at ho; cases ho; rw [hd'] at hd; cases hd
theorem Inv.funs (I : Inv X pins σ H s) : s.heap.FunFrames X.base X.outer := by
  have all : ∀ (l : List Env), (∀ b ∈ frs l, b ∈ X.fs) → X.s₀.heap.FunFrames X.base l → s.heap.FunFrames X.base l := by
    intro l
    induction l with
    | nil => intro _ _; trivial
    | cons env r ih =>
      intro hs hl
      obtain ⟨hk, ⟨L, o, hf, hn, ho, hd⟩, hr⟩ := hl
      have hL : L ∈ X.fs := hs L (by unfold frs; rw [List.filterMap_cons, hf]; exact List.mem_cons_self)
      obtain ⟨sl, e⟩ := I.base.slot L o ho (I.ok.frf L hL) hL fun z => I.ok.exfs L z hL
      exact ⟨hk, ⟨L, _, hf, hn, e, hd⟩, ih (fun b hb => hs b (by unfold frs; rw [List.filterMap_cons, hf]; exact List.mem_cons_of_mem _ hb)) hr⟩
  exact all X.outer (fun _ hb => hb) I.ok.funs
theorem Inv.stack (I : Inv X pins σ H s) : s.heap.FunFrames X.base X.stack := by
  rcases I.ok.stk with e | ⟨e, hf⟩
  · rw [e]; exact I.funs
  · rw [e]
    obtain ⟨m, hn, _⟩ := I.loc
    refine .cons (by rw [I.ok.kind]; decide) hf hn ?_ I.funs
    exact Heap.get?_none_of_le (Nat.le_trans I.ok.bsz I.ok.above)
theorem Inv.stkSub (I : Inv X pins σ H s) : ∀ b ∈ frs X.stack, b ∈ X.env.locals :: X.fs := fun b hb => by
  rcases I.ok.stk with e | ⟨e, hf⟩
  · rw [e] at hb; exact List.mem_cons_of_mem _ hb
  · rw [e] at hb
    unfold frs at hb
    rw [List.filterMap_cons, hf] at hb
    exact hb
theorem Inv.stkFree (I : Inv X pins σ H s) : ∀ b ∈ frs X.stack, H b = none := fun b hb => by
  rcases List.mem_cons.mp (I.stkSub b hb) with e | hb
  · rw [e]; exact I.free
  · obtain ⟨_, o, ho, _⟩ := I.ok.funs.mem hb
    exact I.base.free b o ho (I.ok.frf b hb) fun z => I.ok.exfs b z hb
theorem Inv.step {g' : Array GenState} {t' : Nat} {d' : Drawn} {ch : List Addr} (I : Inv X pins σ H s)
    (hch : ∀ b ∈ ch, (b ∈ X.ex ∨ X.s₀.heap.objs.size ≤ b) ∧ b ≠ X.env.locals ∧ (∀ x c, X.env.cells.lookup x = some c → c ≠ b) ∧ ∀ p ∈ X.pn ++ pins, p.1 ≠ b)
    (keep : ∀ b o, b ≠ X.env.locals → b ∉ X.fs → b ∉ ch → s.heap.get? b = some o → H b = none → h'.get? b = some o)
    (slot : ∀ b o, b ≠ X.env.locals → b ∈ X.fs → b ∉ ch → s.heap.get? b = some o → H b = none → ∃ sl, h'.get? b = some { o with slots := sl }) (free : ∀ b o, b ∉ ch → s.heap.get? b = some o → H b = none → H' b = none)
    (there : ∀ b o, b ∉ ch → s.heap.get? b = some o → ∃ o', h'.get? b = some o')
    (tups : ∀ b xs, H b = some (.tup xs) → H' b = some (.tup xs)) (frzs : ∀ b o u, H b = some (.frz o u) → H' b = some (.frz o u)) (tbls : ∀ b ps, H b = some (.tbl ps) → ∃ more, H' b = some (.tbl (ps ++ more)))
    (ns : ∀ m, s.heap.Ns X.env.locals m → h'.Ns X.env.locals m) (hok : HOk X.prog X.w H' h') (hg : AllBare g') :
    Inv X pins σ H' { s with heap := h', gens := g', drawn := d', toks := t' } := by
  have neL : ∀ b o, X.s₀.heap.get? b = some o → b ≠ X.env.locals := fun b o e => Nat.ne_of_lt (Nat.lt_of_lt_of_le (Heap.lt_size e) I.ok.above)
  have neC : ∀ b o, X.s₀.heap.get? b = some o → b ∉ X.ex → b ∉ ch := fun b o e hx hb => by
    rcases (hch b hb).1 with z | z
    · exact hx z
    · exact absurd (Nat.lt_of_lt_of_le (Heap.lt_size e) z) (Nat.lt_irrefl _)
  have cellK : ∀ x c, X.env.cells.lookup x = some c → ∀ v, s.heap.IsCell c v → h'.IsCell c v := fun x c e v ⟨o, ho, hd⟩ => by
    have nch : c ∉ ch := fun z => (hch c z).2.2.1 x c e rfl
    by_cases hc : c ∈ X.fs
    · obtain ⟨sl, q⟩ := slot c o (I.cne x c e) hc nch ho (I.freeC x c e)
      exact ⟨_, q, hd⟩
    · exact ⟨o, keep c o (I.cne x c e) hc nch ho (I.freeC x c e), hd⟩
  refine ⟨I.ok, I.os, hg, ⟨fun b o e n hb hx => ?_, fun b o e n hb hx => ?_, fun b o e n hx => ?_, fun b o e hx => ?_, fun b xs e => tups b xs (I.base.tups b xs e), fun b o xs e => frzs b o xs (I.base.frzs b o xs e), fun b ps e => ?_⟩, ?_, fun x c e => ?_, ?_, fun x c e => ?_, fun p hp => ?_, hok, I.len⟩
  · exact keep b o (neL b o e) hb (neC b o e hx) (I.base.keep b o e n hb hx) (I.base.free b o e n hx)
  · obtain ⟨sl, e1⟩ := I.base.slot b o e n hb hx
    obtain ⟨sl', e2⟩ := slot b _ (neL b o e) hb (neC b o e hx) e1 (I.base.free b o e n hx)
    exact ⟨sl', e2⟩
  · obtain ⟨o', e1⟩ := I.base.there b o e hx
    exact free b o' (neC b o e hx) e1 (I.base.free b o e n hx)
  · obtain ⟨o', e1⟩ := I.base.there b o e hx
    exact there b o' (neC b o e hx) e1
  · obtain ⟨m1, e1⟩ := I.base.tbls b ps e
    obtain ⟨m2, e2⟩ := tbls b _ e1
    exact ⟨m1 ++ m2, by rw [e2, Array.append_assoc]⟩
  · obtain ⟨m, hn, hl⟩ := I.loc
    refine ⟨m, ns m hn, fun i x v e1 e2 e3 => ?_⟩
    obtain ⟨u, r, l⟩ := hl i x v e1 e2 e3
    refine ⟨u, r, ?_⟩
    rcases l with l | ⟨k, c, e, z⟩
    · exact .inl l
    · exact .inr ⟨k, c, e, cellK x c e _ z⟩
  · obtain ⟨v, z⟩ := I.cell x c e
    exact ⟨v, cellK x c e v z⟩
  · obtain ⟨m, ⟨o, _, _, ho, _⟩, _⟩ := I.loc
    exact free _ o (fun z => (hch _ z).2.1 rfl) ho I.free
  · obtain ⟨v, o, ho, hd⟩ := I.cell x c e
    exact free c o (fun z => (hch c z).2.2.1 x c e rfl) ho (I.freeC x c e)
  · obtain ⟨e, n, ne, nf, d⟩ := I.pin p hp
    have nch : p.1 ∉ ch := fun z => (hch p.1 z).2.2.2 p hp rfl
    exact ⟨keep p.1 p.2 ne nf nch e n, free p.1 p.2 nch e n, ne, nf, d⟩
theorem Inv.un {t' : Nat} (I : Inv X pins σ H s) (u : Un X.fs [] H H' s.heap h') (hok : HOk X.prog X.w H' h') : Inv X pins σ H' { s with heap := h', toks := t' } := by
  obtain ⟨m, ⟨o, es, ep, ho, r⟩, _⟩ := id I.loc
  obtain ⟨sl, hL⟩ := u.any ho I.free (by simp)
  exact I.step (g' := s.gens) (d' := s.drawn) (ch := []) (fun _ z => nomatch z) (fun b o _ hb _ e n => u.keep b o e n hb (by simp)) (fun b o _ hb _ e n => u.slot b o e n hb (by simp)) (fun b o _ e n => u.free b o e n (by simp)) (fun b o _ e => u.there b o e (by simp)) u.tups u.frzs u.tbls (fun m' hm => by
    obtain ⟨o', es', ep', ho', r'⟩ := hm
    rw [ho] at ho'; cases ho'
    exact ⟨_, es', ep', hL, r'⟩) hok I.bare
theorem Inv.call {g' : Array GenState} {t' : Nat} {d' : Drawn} {ch : List Addr} (I : Inv X pins σ H s) (u : Un (frs X.stack) ch H H' s.heap h') (hok : HOk X.prog X.w H' h') (hg : AllBare g')
    (hch : ∀ b ∈ ch, (b ∈ X.ex ∨ X.s₀.heap.objs.size ≤ b) ∧ b ≠ X.env.locals ∧ (∀ x c, X.env.cells.lookup x = some c → c ≠ b) ∧ ∀ p ∈ X.pn ++ pins, p.1 ≠ b) :
    Inv X pins σ H' { s with heap := h', gens := g', drawn := d', toks := t' } := by
  obtain ⟨m, ⟨o, es, ep, ho, r⟩, _⟩ := id I.loc
  obtain ⟨sl, hL⟩ := u.any ho I.free fun z => (hch _ z).2.1 rfl
  exact I.step (ch := ch) hch (fun b o hL hb hc e n => u.keep b o e n (fun z => (List.mem_cons.mp (I.stkSub b z)).elim hL hb) hc) (fun b o _ _ hc e n => u.any e n hc) (fun b o hc e n => u.free b o e n hc) (fun b o hc e => u.there b o e hc) u.tups u.frzs u.tbls (fun m' hm => by
    obtain ⟨o', es', ep', ho', r'⟩ := hm
    rw [ho] at ho'; cases ho'
    exact ⟨_, es', ep', hL, r'⟩) hok hg
theorem Inv.turned {t' : Nat} {it : Addr} (I : Inv X pins σ H s) (k : ∀ b o, b ≠ it → s.heap.get? b = some o → h'.get? b = some o) (hn : H it = none) (hL : it ≠ X.env.locals)
    (h1 : it ∈ X.ex ∨ X.s₀.heap.objs.size ≤ it) (h2 : ∀ x c, X.env.cells.lookup x = some c → c ≠ it) (h3 : ∀ p ∈ X.pn ++ pins, p.1 ≠ it) : Inv X pins σ H { s with heap := h', toks := t' } := by
  have nit : ∀ b u, H b = some u → b ≠ it := fun b u e z => by rw [z, hn] at e; cases e
  refine I.step (g' := s.gens) (d' := s.drawn) (ch := [it]) (fun b hb => ?_) (fun b o _ _ hc e _ => k b o (fun z => hc (by simp [z])) e) (fun b o _ _ hc e _ => ⟨o.slots, k b o (fun z => hc (by simp [z])) e⟩) (fun _ _ _ _ n => n)
    (fun b o hc e => ⟨o, k b o (fun z => hc (by simp [z])) e⟩) (fun _ _ e => e) (fun _ _ _ e => e) (fun b ps e => ⟨#[], by rw [e]; simp⟩) (fun m hm => ?_) (fun b u e => ?_) I.bare
  · have e : b = it := by simpa using hb
    subst e
    exact ⟨h1, hL, h2, h3⟩
  · obtain ⟨o, es, ep, ho, r⟩ := hm
    exact ⟨o, es, ep, k _ o (Ne.symm hL) ho, r⟩
  · refine (I.hok b u e).stay (fun c v hc q => k c v ?_ q) (fun _ q => q) fun _ _ q => q
    rcases hc with z | z
    · rw [z]; exact nit b u e
    · exact nit c _ z
theorem Inv.tok (I : Inv X pins σ H s) (t : Nat) : Inv X pins σ H { s with toks := t } := I.un (h' := s.heap) (t' := t) Un.refl I.hok
theorem Inv.kept {t' : Nat} (I : Inv X pins σ H s) (k : ∀ b u, s.heap.get? b = some u → h'.get? b = some u) : Inv X pins σ H { s with heap := h', toks := t' } := I.un (Un.kept k) (I.hok.kept k)
theorem Inv.laid {a : Addr} {o : HO} {t' : Nat} (I : Inv X pins σ H s) (k : ∀ b u, s.heap.get? b = some u → h'.get? b = some u) (hp : s.heap.objs.size ≤ a) (new : ObjOk X.prog X.w (upd H a o) h' a o) :
    Inv X pins σ (upd H a o) { s with heap := h', toks := t' } := I.un (Un.laid k hp (I.hok.fresh hp)) (I.hok.laid k hp new)
theorem Inv.write {x e : Addr} {o : HO} {t' : Nat} (I : Inv X pins σ H s) (mu : Mut (H x)) (he : e = x ∨ H e = some (.own x)) (k : ∀ b u, b ≠ e → s.heap.get? b = some u → h'.get? b = some u) (heo : ∃ u, h'.get? e = some u)
    (new : ObjOk X.prog X.w (upd H x o) h' x o) : Inv X pins σ (upd H x o) { s with heap := h', toks := t' } := I.un (Un.write mu he k heo) (I.hok.write mu he k heo new)
theorem Inv.pins_of {pins' : List (Addr × Obj)} (I : Inv X pins σ H s) (h : ∀ p ∈ pins', s.heap.get? p.1 = some p.2 ∧ H p.1 = none ∧ p.1 ≠ X.env.locals ∧ p.1 ∉ X.fs ∧ ∀ v, p.2.data ≠ .cell v) : Inv X pins' σ H s :=
  ⟨I.ok, I.os, I.bare, I.base, I.loc, I.cell, I.free, I.freeC, fun p hp => (List.mem_append.mp hp).elim (fun z => I.pin p (List.mem_append_left _ z)) (h p), I.hok, I.len⟩
theorem nodup_ix {N : List Str} (hN : N.Nodup) {i j : Nat} {x : Str} (a : N[i]? = some x) (b : N[j]? = some x) : i = j := by
  obtain ⟨h1, e1⟩ := List.getElem?_eq_some_iff.mp a
  obtain ⟨h2, e2⟩ := List.getElem?_eq_some_iff.mp b
  exact (List.getElem_inj hN).mp (e1.trans e2.symm)
theorem store_ok2 {M : Model} {A : Around} {E : Value → Shared → Prop} {i : Nat} {x : Str} {v : V} {u : Value} {Q : Unit → Shared → Prop} (I : Inv X pins σ H s) (hN : X.N.Nodup) (hi : X.N[i]? = some x) (hx : Loc X.env.scope x) (r : RelV v u)
    (h : ∀ s', Inv X pins (σ.set i (some v)) H s' → (∃ a, Heap.SameBut a s.heap s'.heap ∧ (a = X.env.locals ∨ X.env.cells.lookup x = some a)) → Q () s') (hf : X.fn x = true ∨ X.env.scope.names.lookup x = some .local := by first | exact .inl rfl | exact .inr rfl | assumption) : wpAny M A (storeName X.env x u) Q E s := by
  obtain ⟨m, hn, hl⟩ := id I.loc
  have hcls : (X.env.scope.kind == .class || (X.env.scope.kind == .module && X.env.locals != X.env.globals)) = false := by rw [I.ok.kind]; rfl
  have hiσ : i < σ.length := by rw [I.len]; exact (List.getElem?_eq_some_iff.mp hi).1
  have cne := I.cne
  have tracked : ∀ {a : Addr} {h' : Heap}, (∃ o, s.heap.get? a = some o ∧ H a = none) → Heap.SameBut a s.heap h' → HOk X.prog X.w H h' := fun {a h'} ha hs b ob e => by
    obtain ⟨_, _, hfree⟩ := ha
    refine (I.hok b ob e).stay (fun c w' hc q => (hs.2 c ?_).trans q) (fun _ q => q) fun _ _ q => q
    rintro rfl
    rcases hc with rfl | hc
    · rw [hfree] at e; cases e
    · rw [hfree] at hc; cases hc
  rcases hx with hk | hk
  · refine wpAny_storeName_local hk hn (fun h' hn' hs => ?_) hcls
    obtain ⟨oL, _, _, hoL, _⟩ := id hn
    refine h _ ⟨I.ok, I.os, I.bare, ⟨fun b o e n hb hx => ?_, fun b o e n hb hx => ?_, I.base.free, fun b o e hx => ?_, I.base.tups, I.base.frzs, I.base.tbls⟩, ⟨_, hn', fun j y v' e1 e2 e3 => ?_⟩, fun y c e => ?_, I.free, I.freeC, fun p hp => ?_, tracked ⟨oL, hoL, I.free⟩ hs, by simpa using I.len⟩ ⟨_, hs, .inl rfl⟩
    · exact (hs.2 b (Nat.ne_of_lt (Nat.lt_of_lt_of_le (Heap.lt_size e) I.ok.above))).trans (I.base.keep b o e n hb hx)
    · obtain ⟨sl, e1⟩ := I.base.slot b o e n hb hx
      exact ⟨sl, (hs.2 b (Nat.ne_of_lt (Nat.lt_of_lt_of_le (Heap.lt_size e) I.ok.above))).trans e1⟩
    · obtain ⟨o', e1⟩ := I.base.there b o e hx
      exact ⟨o', (hs.2 b (Nat.ne_of_lt (Nat.lt_of_lt_of_le (Heap.lt_size e) I.ok.above))).trans e1⟩
    · by_cases hj : j = i
      · subst hj
        rw [hi] at e1; cases e1
        rw [List.getElem?_set_self hiσ] at e2
        cases e2
        exact ⟨u, r, .inl ⟨hk, by simp⟩⟩
      · rw [List.getElem?_set_ne (Ne.symm hj)] at e2
        obtain ⟨u', r', q⟩ := hl j y v' e1 e2 e3
        refine ⟨u', r', ?_⟩
        rcases q with ⟨k, e⟩ | ⟨k, c, e, z⟩
        · refine .inl ⟨k, ?_⟩
          have : y ≠ x := fun e => hj (nodup_ix hN e1 (e ▸ hi))
          simp [this, e]
        · exact .inr ⟨k, c, e, z.sameBut hs (cne y c e)⟩
    · obtain ⟨w', z⟩ := I.cell y c e
      exact ⟨w', z.sameBut hs (cne y c e)⟩
    · obtain ⟨e, n, ne, nf, d⟩ := I.pin p hp
      exact ⟨(hs.2 p.1 ne).trans e, n, ne, nf, d⟩
  · have hfn : X.fn x = true := by
      rcases hf with z | z
      · exact z
      · rw [z] at hk; cases hk
    obtain ⟨c, hc⟩ := I.ok.has x (.inl hk)
    obtain ⟨w', z⟩ := I.cell x c hc
    refine wpAny_storeName_cell I.ok.kind hk hc z (fun h' hc' hs => ?_)
    obtain ⟨oc, hoc, hocd⟩ := id z
    refine h { s with heap := h' } ⟨I.ok, I.os, I.bare, ⟨fun b o e n hb hx => ?_, fun b o e n hb hx => ?_, I.base.free, fun b o e hx => ?_, I.base.tups, I.base.frzs, I.base.tbls⟩, ⟨m, hn.sameBut hs (Ne.symm (cne x c hc)), fun j y v' e1 e2 e3 => ?_⟩, fun y c' e => ?_, I.free, I.freeC, fun p hp => ?_, tracked ⟨oc, hoc, I.freeC x c hc⟩ hs, by simpa using I.len⟩ ⟨c, hs, .inr hc⟩
    · exact (hs.2 b (Nat.ne_of_lt (Nat.lt_of_lt_of_le (Heap.lt_size e) (I.ok.cab x c hfn hc)))).trans (I.base.keep b o e n hb hx)
    · obtain ⟨sl, e1⟩ := I.base.slot b o e n hb hx
      exact ⟨sl, (hs.2 b (Nat.ne_of_lt (Nat.lt_of_lt_of_le (Heap.lt_size e) (I.ok.cab x c hfn hc)))).trans e1⟩
    · obtain ⟨o', e1⟩ := I.base.there b o e hx
      exact ⟨o', (hs.2 b (Nat.ne_of_lt (Nat.lt_of_lt_of_le (Heap.lt_size e) (I.ok.cab x c hfn hc)))).trans e1⟩
    · by_cases hj : j = i
      · subst hj
        rw [hi] at e1; cases e1
        rw [List.getElem?_set_self hiσ] at e2
        cases e2
        exact ⟨u, r, .inr ⟨.inl hk, c, hc, hc'⟩⟩
      · rw [List.getElem?_set_ne (Ne.symm hj)] at e2
        obtain ⟨u', r', q⟩ := hl j y v' e1 e2 e3
        refine ⟨u', r', ?_⟩
        rcases q with q | ⟨k, c', e, z'⟩
        · exact .inl q
        · refine .inr ⟨k, c', e, z'.sameBut hs ?_⟩
          rintro rfl
          exact hj (nodup_ix hN e1 (I.ok.inj _ _ _ e hc ▸ hi))
    · by_cases hcc : c' = c
      · subst hcc; exact ⟨_, hc'⟩
      · obtain ⟨w2, z2⟩ := I.cell y c' e
        exact ⟨w2, z2.sameBut hs hcc⟩
    · obtain ⟨e, n, ne, nf, d⟩ := I.pin p hp
      refine ⟨(hs.2 p.1 ?_).trans e, n, ne, nf, d⟩
      intro q
      rw [q, hoc] at e
      have q' : oc = p.2 := Option.some.inj e
      exact d w' (by rw [← q']; exact hocd)
theorem store_ok {M : Model} {A : Around} {E : Value → Shared → Prop} {i : Nat} {x : Str} {v : V} {u : Value} {Q : Unit → Shared → Prop} (I : Inv X pins σ H s) (hN : X.N.Nodup) (hi : X.N[i]? = some x) (hx : Loc X.env.scope x) (r : RelV v u)
    (h : ∀ s', Inv X pins (σ.set i (some v)) H s' → Q () s') (hf : X.fn x = true ∨ X.env.scope.names.lookup x = some .local := by first | exact .inl rfl | exact .inr rfl | assumption) : wpAny M A (storeName X.env x u) Q E s :=
  store_ok2 I hN hi hx r (fun s' I' _ => h s' I') hf
theorem Inv.call' {s' : Shared} {ch : List Addr} (I : Inv X pins σ H s) (ho : s'.os = s.os) (u : Un (frs X.stack) ch H H' s.heap s'.heap) (hok : HOk X.prog X.w H' s'.heap) (hg : AllBare s'.gens)
    (hch : ∀ b ∈ ch, (b ∈ X.ex ∨ X.s₀.heap.objs.size ≤ b) ∧ b ≠ X.env.locals ∧ (∀ x c, X.env.cells.lookup x = some c → c ≠ b) ∧ ∀ p ∈ X.pn ++ pins, p.1 ≠ b) : Inv X pins σ H' s' := by
  obtain ⟨h', g', d', t', o'⟩ := s'
  have e : o' = s.os := ho
  subst e
  exact I.call (g' := g') (t' := t') (d' := d') u hok hg hch
end
abbrev XK := Value → Option Addr → Hp → Prop
abbrev St := List (Option V)
abbrev VK := V → Hp → Prop
abbrev TE := St → Hp → VK → Prop
abbrev TT := St → Hp → (Bool → Hp → Prop) → Prop
abbrev TA := St → Hp → (List V → Hp → Prop) → Prop
structure Ends where
  nx : St → Hp → Prop
  rt : VK
  bk : St → Hp → Prop := fun _ _ => False
  ct : St → Hp → Prop := fun _ _ => False
abbrev TS := Ends → St → Hp → Prop
def EP (X : Cx) (pins : List (Addr × Obj)) (σ : St) (Q : VK) (u : Value) (s' : Shared) : Prop := ∃ v H', Inv X pins σ H' s' ∧ RelV v u ∧ Q v H'
def TP (X : Cx) (pins : List (Addr × Obj)) (σ : St) (Q : Bool → Hp → Prop) (b : Bool) (s' : Shared) : Prop := ∃ H', Inv X pins σ H' s' ∧ Q b H'
def AP (X : Cx) (pins : List (Addr × Obj)) (σ : St) (Q : List V → Hp → Prop) (us : List Value) (s' : Shared) : Prop := ∃ vs H', Inv X pins σ H' s' ∧ Vals vs us ∧ Q vs H'
def SP (X : Cx) (pins : List (Addr × Obj)) (D : Ends) (f : Flow) (s' : Shared) : Prop :=
  match f with
  | .next => ∃ σ' H', Inv X pins σ' H' s' ∧ D.nx σ' H'
  | .brk => ∃ σ' H', Inv X pins σ' H' s' ∧ D.bk σ' H'
  | .cont => ∃ σ' H', Inv X pins σ' H' s' ∧ D.ct σ' H'
  | .ret u => ∃ v σ' H', Inv X pins σ' H' s' ∧ RelV v u ∧ D.rt v H'
def PE (X : Cx) (e : Expr) (t : TE) : Prop :=
  ∀ (pins : List (Addr × Obj)) (s : Shared) (σ : St) (H : Hp) (Q : VK), Inv X pins σ H s → t σ H Q → wpAny (model X.prog X.w) X.A (eval e X.env) (EP X pins σ Q) X.xe s
def PT (X : Cx) (e : Expr) (t : TT) : Prop :=
  ∀ (pins : List (Addr × Obj)) (s : Shared) (σ : St) (H : Hp) (Q : Bool → Hp → Prop), Inv X pins σ H s → t σ H Q → wpAny (model X.prog X.w) X.A (isTrue e X.env (eval e X.env)) (TP X pins σ Q) X.xe s
def PW (X : Cx) (e : Expr) (t : TT) : Prop :=
  ∀ (whole : Sem Value) (pins : List (Addr × Obj)) (s : Shared) (σ : St) (H : Hp) (Q : Bool → Hp → Prop), Inv X pins σ H s → t σ H Q → wpAny (model X.prog X.w) X.A (isTrue e X.env whole) (TP X pins σ Q) X.xe s
theorem PW.pt {X : Cx} {e : Expr} {t : TT} (h : PW X e t) : PT X e t := h _
def PA (X : Cx) (es : List Expr) (t : TA) : Prop :=
  ∀ (pos : Pos) (pins : List (Addr × Obj)) (s : Shared) (σ : St) (H : Hp) (Q : List V → Hp → Prop), Inv X pins σ H s → t σ H Q → wpAny (model X.prog X.w) X.A (spliced (backTo pos (starEach es X.env))) (AP X pins σ Q) X.xe s
def PS (X : Cx) (st : Stmt) (t : TS) : Prop :=
  ∀ (pins : List (Addr × Obj)) (s : Shared) (σ : St) (H : Hp) (D : Ends), Inv X pins σ H s → t D σ H → wpAny (model X.prog X.w) X.A (exec st X.env) (SP X pins D) X.xe s
def PSs (X : Cx) (st : List Stmt) (t : TS) : Prop :=
  ∀ (pins : List (Addr × Obj)) (s : Shared) (σ : St) (H : Hp) (D : Ends), Inv X pins σ H s → t D σ H → wpAny (model X.prog X.w) X.A (execs st X.env) (SP X pins D) X.xe s
theorem thn {α : Type} {t : Sem α} {Q Q' : α → Shared → Prop} {M : Model} {A : Around} {E : Value → Shared → Prop} {s : Shared} (h : wpAny M A t Q E s) (hQ : ∀ a s, Q a s → Q' a s) : wpAny M A t Q' E s := wpAny_mono h hQ fun _ _ x => x
end L2
namespace L2
open PySem PySem.Spec PyProof.Rows
section
variable {X : Cx}
def tVar (i : Nat) : TE := fun σ H Q => ∃ v, σ[i]? = some (some v) ∧ Q v H
def tC (v : V) : TE := fun _ H Q => Q v H
theorem pe_var {i : Nat} {x : Str} {pos : Pos} (hN : X.N[i]? = some x) (hv : Vis X.env.scope x) (hd : (x == ("__debug__" : Str)) = false := by decide) (hcd : (x == ("__classdict__" : Str)) = false := by decide) : PE X (.Name x pos) (tVar i) := by
  intro pins s σ H Q I h
  obtain ⟨v, e, h⟩ := h
  obtain ⟨m, hn, hl⟩ := I.loc
  obtain ⟨u, r, l⟩ := hl i x v hN e hv
  have fin : EP X pins σ Q u s := ⟨v, H, I, r, h⟩
  rcases l with ⟨hk, hm⟩ | ⟨hk, c, hc, hcell⟩
  · exact wpAny_Name (wpAny_loadName_local I.ok.kind hk hn hm fin) hd
  · rcases hk with hk | hk
    · exact wpAny_Name (wpAny_loadName_cell I.ok.kind hk hc hcell fin) hd
    · exact wpAny_Name (wpAny_loadName_free I.ok.kind hk hc hcell fin hcd) hd
theorem pe_int {i j pos} : PE X (.Constant (.int i) j pos) (tC (.int i)) := fun _ _ _ H _ I h => wpAny_Constant_int ⟨.int i, H, I.tok _, ⟨_, rfl⟩, h⟩
theorem pe_bl {b j pos} : PE X (.Constant (.bool b) j pos) (tC (.bl b)) := fun _ _ _ H _ I h => Constant_bool ⟨.bl b, H, I, rfl, h⟩
theorem pe_non {j pos} : PE X (.Constant .none j pos) (tC .non) := fun _ _ _ H _ I h => Constant_none ⟨.non, H, I, rfl, h⟩
def Gl (X : Cx) (x : Str) : Prop := X.env.kindOf x = some .globalImplicit
theorem ld_glob {E : Value → Shared → Prop} {pins : List (Addr × Obj)} {s : Shared} {σ : St} {H : Hp} {x : Str} {u : Value} {pos : Pos} {Q : Value → Shared → Prop} (I : Inv X pins σ H s) (hg : Gl X x) (hm : X.mg x = some u) (h : Q u s)
    (hd : (x == ("__debug__" : Str)) = false := by decide) : wpAny (model X.prog X.w) X.A (eval (.Name x pos) X.env) Q E s :=
  Calls.Name_function_global I.ok.kind hg (Calls.loadGlobal_global (by rw [I.ok.glob]; exact I.mod.glob.keeps I.bk) hm h) hd
theorem ld_blt {E : Value → Shared → Prop} {pins : List (Addr × Obj)} {s : Shared} {σ : St} {H : Hp} {x : Str} {u : Value} {pos : Pos} {Q : Value → Shared → Prop} (I : Inv X pins σ H s) (hg : Gl X x) (hm : X.mg x = none) (hv : bootBuiltins x = some u) (h : Q u s)
    (hn : x ≠ "__name__" := by decide) (hd : (x == ("__debug__" : Str)) = false := by decide) : wpAny (model X.prog X.w) X.A (eval (.Name x pos) X.env) Q E s := by
  obtain ⟨mb, h1, h2⟩ := I.mod.blt
  exact Calls.Name_function_global I.ok.kind hg (Calls.loadGlobal_builtin (by rw [I.ok.glob]; exact I.mod.glob.keeps I.bk) hm (by rw [I.ok.blt]; exact h1.keeps I.bk) ((h2 x hn).trans hv) h) hd
theorem pe_bltn {x : Str} {v : V} {u : Value} {pos : Pos} (hg : Gl X x) (hm : X.mg x = none) (hv : bootBuiltins x = some u) (r : RelV v u) (hn : x ≠ "__name__" := by decide) (hd : (x == ("__debug__" : Str)) = false := by decide) : PE X (.Name x pos) (tC v) :=
  fun _ _ _ H _ I h => ld_blt I hg hm hv ⟨v, H, I, r, h⟩ hn hd
variable {a b : Expr} {ta tb : TE} {pos : Pos}
def tB (t : TE) : TT := fun σ H Q => t σ H fun x H1 => ∃ c, x = .bl c ∧ Q c H1
theorem pt_val {e : Expr} {t : TE} (h : PE X e t) (he : ∀ whole, isTrue e X.env whole = (do let v ← whole; standAt e.pos; holding [v] (truthy v)) := by intro _; rfl) : PT X e (tB t) := by
  intro pins s σ H Q I hw
  refine isTrue_plain (thn (h pins s σ H _ I hw) fun v s1 ⟨x, H1, I1, r1, q1⟩ => ?_) (he _)
  obtain ⟨d, rfl, q⟩ := q1
  cases r1
  exact wpAny_truthy_bool ⟨H1, I1, q⟩
variable {tA tB' : TT} {rest : List Expr}
def tAnd (t u : TT) : TT := fun σ H Q => t σ H fun c H1 => if c = true then u σ H1 Q else Q false H1
def tOr (t u : TT) : TT := fun σ H Q => t σ H fun c H1 => if c = true then Q true H1 else u σ H1 Q
def tNot (t : TT) : TT := fun σ H Q => t σ H fun c H1 => Q (!c) H1
theorem pw_and1 (ha : PT X a tA) : PW X (.BoolOp .And [a] pos) tA := by
  intro wh pins s σ H Q I h
  refine isTrue_and (thn (ha pins s σ H Q I h) fun c s1 e => ?_)
  cases c with
  | true => exact isTrue_and_nil e
  | false => exact e
theorem pw_or1 (ha : PT X a tA) : PW X (.BoolOp .Or [a] pos) tA := by
  intro wh pins s σ H Q I h
  refine isTrue_or (thn (ha pins s σ H Q I h) fun c s1 e => ?_)
  cases c with
  | false => exact isTrue_or_nil e
  | true => exact e
theorem pw_and (ha : PT X a tA) (hb : PW X (.BoolOp .And (b :: rest) pos) tB') : PW X (.BoolOp .And (a :: b :: rest) pos) (tAnd tA tB') := by
  intro wh pins s σ H Q I h
  refine isTrue_and (thn (ha pins s σ H _ I h) fun c s1 ⟨H1, I1, q1⟩ => ?_)
  cases c with
  | true => exact hb wh pins s1 σ H1 Q I1 q1
  | false => exact ⟨H1, I1, q1⟩
theorem pw_or (ha : PT X a tA) (hb : PW X (.BoolOp .Or (b :: rest) pos) tB') : PW X (.BoolOp .Or (a :: b :: rest) pos) (tOr tA tB') := by
  intro wh pins s σ H Q I h
  refine isTrue_or (thn (ha pins s σ H _ I h) fun c s1 ⟨H1, I1, q1⟩ => ?_)
  cases c with
  | true => exact ⟨H1, I1, q1⟩
  | false => exact hb wh pins s1 σ H1 Q I1 q1
theorem pt_not (ha : PT X a tA) : PT X (.UnaryOp .Not a pos) (tNot tA) := by
  intro pins s σ H Q I h
  exact isTrue_not (ha pins s σ H (fun c H1 => Q (!c) H1) I h)
def tAndV (ta tb : TE) : TE := fun σ H Q => ta σ H fun x H1 => ∃ c, x = .bl c ∧ if c = true then tb σ H1 Q else Q (.bl false) H1
def tOrV (ta tb : TE) : TE := fun σ H Q => ta σ H fun x H1 => ∃ c, x = .bl c ∧ if c = true then Q (.bl true) H1 else tb σ H1 Q
def tNotV (ta : TE) : TE := fun σ H Q => ta σ H fun x H1 => ∃ c, x = .bl c ∧ Q (.bl (!c)) H1
theorem pe_one {op} {t : TE} (h : PE X a t) : PE X (.BoolOp op [a] pos) t := fun pins s σ H Q I hw => BoolOp_one (h pins s σ H Q I hw)
theorem pe_and (ha : PE X a ta) (hb : PE X (.BoolOp .And (b :: rest) pos) tb) : PE X (.BoolOp .And (a :: b :: rest) pos) (tAndV ta tb) := by
  intro pins s σ H Q I h
  refine BoolOp_and (thn (ha pins s σ H _ I h) fun v s1 ⟨x, H1, I1, r1, q1⟩ => ?_)
  obtain ⟨c, rfl, q1⟩ := q1
  cases r1
  refine wpAny_truthy_bool ?_
  cases c with
  | true => exact hb pins s1 σ H1 Q I1 q1
  | false => exact ⟨.bl false, H1, I1, rfl, q1⟩
theorem pe_or (ha : PE X a ta) (hb : PE X (.BoolOp .Or (b :: rest) pos) tb) : PE X (.BoolOp .Or (a :: b :: rest) pos) (tOrV ta tb) := by
  intro pins s σ H Q I h
  refine BoolOp_or (thn (ha pins s σ H _ I h) fun v s1 ⟨x, H1, I1, r1, q1⟩ => ?_)
  obtain ⟨c, rfl, q1⟩ := q1
  cases r1
  refine wpAny_truthy_bool ?_
  cases c with
  | false => exact hb pins s1 σ H1 Q I1 q1
  | true => exact ⟨.bl true, H1, I1, rfl, q1⟩
theorem pe_not (ha : PE X a ta) : PE X (.UnaryOp .Not a pos) (tNotV ta) := by
  intro pins s σ H Q I h
  refine UnaryOp_ (thn (ha pins s σ H _ I h) fun v s1 ⟨x, H1, I1, r1, q1⟩ => ?_)
  obtain ⟨c, rfl, q1⟩ := q1
  cases r1
  exact not_of (wpAny_truthy_bool ⟨.bl (!c), H1, I1, rfl, q1⟩)
def tIf (t : TT) (ta tb : TE) : TE := fun σ H Q => t σ H fun c H1 => if c = true then ta σ H1 Q else tb σ H1 Q
theorem pe_ifExp {c : Expr} (hc : PT X c tA) (ha : PE X a ta) (hb : PE X b tb) : PE X (.IfExp c a b pos) (tIf tA ta tb) := by
  intro pins s σ H Q I h
  refine wpAny_IfExp (thn (hc pins s σ H _ I h) fun d s1 ⟨H1, I1, q1⟩ => ?_)
  cases d with
  | true => exact ha pins s1 σ H1 Q I1 q1
  | false => exact hb pins s1 σ H1 Q I1 q1
end
end L2
namespace L2
open PySem PySem.Spec PyProof.Rows
def SqL (K : PySem.W.Frag) (H : Hp) (a : Addr) (xs : List V) : Prop :=
  Rd H a (.lst xs) ∨
    ∃ (o : Obj) (its : Array Value) (n : Nat), K.lookup a = some o ∧ o.cls = .type "list" ∧ o.dict = none ∧ o.data = .seq its n ∧ its.size ≤ sizeLine ∧ Vals xs its.toList
def SqT (K : PySem.W.Frag) (H : Hp) (a : Addr) (xs : List V) : Prop :=
  Rd H a (.tup xs) ∨
    ∃ (o : Obj) (its : Array Value) (n : Nat), K.lookup a = some o ∧ o.cls = .type "tuple" ∧ o.data = .seq its n ∧ its.size ≤ sizeLine ∧ Vals xs its.toList
def absV : Value → Option V
  | .none => some .non
  | .bool b => some (.bl b)
  | .int i _ => some (.int i)
  | .str x _ => some (.str x)
  | .bytes b _ => some (.byt b)
  | .float b _ => some (.flt b)
  | .ref a => some (.ref a)
  | .type n => some (.ty n)
  | _ => none
theorem RelV.abs {x : V} {u : Value} (r : RelV x u) : absV u = some x := by
  cases x with
  | non => cases r; rfl
  | bl _ => cases r; rfl
  | int _ => obtain ⟨t, rfl⟩ := r; rfl
  | str _ => obtain ⟨t, rfl⟩ := r; rfl
  | byt _ => obtain ⟨t, rfl⟩ := r; rfl
  | flt _ => obtain ⟨t, rfl⟩ := r; rfl
  | ref _ => cases r; rfl
  | ty _ => cases r; rfl
theorem RelV.inj {x y : V} {u : Value} (r : RelV x u) (q : RelV y u) : x = y := Option.some.inj (r.abs.symm.trans q.abs)
theorem Vals.inj : ∀ {xs ys : List V} {us : List Value}, Vals xs us → Vals ys us → xs = ys
  | _, _, _, .nil, .nil => rfl
  | _, _, _, .cons r t, .cons r' t' => by rw [r.inj r', Vals.inj t t']
section
variable {X : Cx} {pins : List (Addr × Obj)} {σ : St} {H : Hp} {s : Shared} {a : Addr} {xs ys : List V}
theorem SqL.of {K : PySem.W.Frag} (h : H a = some (.lst xs)) : SqL K H a xs := .inl (.inl h)
theorem SqT.of {K : PySem.W.Frag} (h : H a = some (.tup xs)) : SqT K H a xs := .inl (.inl h)
theorem Inv.list (I : Inv X pins σ H s) (h : SqL X.K H a xs) : ∃ its : List Value, Vals xs its ∧ PlainL s.heap a its.toArray ∧ xs.length ≤ sizeLine := by
  rcases h with h | ⟨o, its, n, hk, hc, hd, hs, hz, r⟩
  · obtain ⟨z, its, n, r, e⟩ := h.ok I.hok
    exact ⟨its, r, ⟨_, n, e, rfl, rfl, rfl⟩, z⟩
  · refine ⟨its.toList, r, ⟨o, n, I.kIn a o hk, hc, hd, by simpa using hs⟩, ?_⟩
    have e := r.length
    simp only [Array.length_toList] at e
    omega
theorem Inv.tuple (I : Inv X pins σ H s) (h : SqT X.K H a xs) : ∃ its : List Value, Vals xs its ∧ IsTup s.heap a its.toArray ∧ xs.length ≤ sizeLine := by
  rcases h with h | ⟨o, its, n, hk, hc, hs, hz, r⟩
  · obtain ⟨z, its, r, p⟩ := h.ok I.hok
    exact ⟨its, r, p, z⟩
  · refine ⟨its.toList, r, ⟨o, I.kIn a o hk, hc, n, by simpa using hs⟩, ?_⟩
    have e := r.length
    simp only [Array.length_toList] at e
    omega
theorem Inv.list_inj (I : Inv X pins σ H s) (h : SqL X.K H a xs) (h' : SqL X.K H a ys) : xs = ys := by
  obtain ⟨its, r, ⟨o, n, e, _, _, d⟩, _⟩ := I.list h
  obtain ⟨its', r', ⟨o', n', e', _, _, d'⟩, _⟩ := I.list h'
  rw [e] at e'; cases e'
  rw [d] at d'
  injection d' with d1 _
  have : its = its' := by simpa using congrArg Array.toList d1
  subst this
  exact r.inj r'
theorem Inv.tuple_inj (I : Inv X pins σ H s) (h : SqT X.K H a xs) (h' : SqT X.K H a ys) : xs = ys := by
  obtain ⟨its, r, ⟨o, e, _, n, d⟩, _⟩ := I.tuple h
  obtain ⟨its', r', ⟨o', e', _, n', d'⟩, _⟩ := I.tuple h'
  rw [e] at e'; cases e'
  rw [d] at d'
  injection d' with d1 _
  have : its = its' := by simpa using congrArg Array.toList d1
  subst this
  exact r.inj r'
end
abbrev Cx.wish (X : Cx) (E : Value → Shared → Prop) : Cx := { X with xe := E }
abbrev Cx.nox (X : Cx) : Cx := X.wish fun _ _ => False
theorem Cx.Ok.wish {X : Cx} (ok : X.Ok) (E : Value → Shared → Prop) : (X.wish E).Ok :=
  ⟨ok.mod, ok.kind, ok.glob, ok.blt, ok.above, ok.inj, ok.has, ok.cab, ok.hd, ok.frames, ok.stk, ok.exf, ok.bs, ok.bsz, ok.noex, ok.exfs, ok.funs, ok.frf⟩
theorem Cx.Ok.unwish {X : Cx} {E : Value → Shared → Prop} (ok : (X.wish E).Ok) : X.Ok :=
  ⟨ok.mod, ok.kind, ok.glob, ok.blt, ok.above, ok.inj, ok.has, ok.cab, ok.hd, ok.frames, ok.stk, ok.exf, ok.bs, ok.bsz, ok.noex, ok.exfs, ok.funs, ok.frf⟩
section
variable {X : Cx} {pins : List (Addr × Obj)} {σ : St} {H : Hp} {s : Shared} {E : Value → Shared → Prop}
theorem Inv.wish (I : Inv X pins σ H s) (E : Value → Shared → Prop) : Inv (X.wish E) pins σ H s := ⟨I.ok.wish E, I.os, I.bare, I.base, I.loc, I.cell, I.free, I.freeC, I.pin, I.hok, I.len⟩
theorem Inv.unwish (I : Inv (X.wish E) pins σ H s) : Inv X pins σ H s := ⟨I.ok.unwish, I.os, I.bare, I.base, I.loc, I.cell, I.free, I.freeC, I.pin, I.hok, I.len⟩
theorem SP.unwish {D : Ends} {f : Flow} {s' : Shared} (h : SP (X.wish E) pins D f s') : SP X pins D f s' := by
  cases f with
  | next => obtain ⟨σ', H', I, q⟩ := h; exact ⟨σ', H', I.unwish, q⟩
  | brk => obtain ⟨σ', H', I, q⟩ := h; exact ⟨σ', H', I.unwish, q⟩
  | cont => obtain ⟨σ', H', I, q⟩ := h; exact ⟨σ', H', I.unwish, q⟩
  | ret u => obtain ⟨v, σ', H', I, r, q⟩ := h; exact ⟨v, σ', H', I.unwish, r, q⟩
theorem PE.nox {e : Expr} {t : TE} (h : PE X.nox e t) : PE X e t := fun pins s σ H Q I hw =>
  wpAny_mono (h pins s σ H Q (I.wish _) hw) (fun _ _ ⟨v, H', I', r, q⟩ => ⟨v, H', I'.unwish, r, q⟩) fun _ _ z => False.elim z
theorem PT.nox {e : Expr} {t : TT} (h : PT X.nox e t) : PT X e t := fun pins s σ H Q I hw =>
  wpAny_mono (h pins s σ H Q (I.wish _) hw) (fun _ _ ⟨H', I', q⟩ => ⟨H', I'.unwish, q⟩) fun _ _ z => False.elim z
theorem PSs.nox {st : List Stmt} {t : TS} (h : PSs X.nox st t) : PSs X st t := fun pins s σ H D I hw =>
  wpAny_mono (h pins s σ H D (I.wish _) hw) (fun _ _ q => q.unwish) fun _ _ z => False.elim z
end
section
variable {X : Cx} {st : Stmt} {rest : List Stmt} {t u : TS} {e : Expr} {te : TE} {pos : Pos}
def tNext : TS := fun D σ H => D.nx σ H
def tSeq (t u : TS) : TS := fun D σ H => t { D with nx := u D } σ H
theorem pss_nil : PSs X [] tNext := fun _ _ σ H _ I h => wpAny_execs_nil ⟨σ, H, I, h⟩
theorem pss_cons (h1 : PS X st t) (h2 : PSs X rest u) : PSs X (st :: rest) (tSeq t u) := by
  intro pins s σ H D I h
  refine wpAny_execs_cons (thn (h1 pins s σ H { D with nx := u D } I h) fun f s1 q => ?_)
  cases f with
  | next =>
    obtain ⟨σ', H', I', q⟩ := q
    exact h2 pins s1 σ' H' D I' q
  | ret v => exact q
  | brk => exact q
  | cont => exact q
theorem pss_one (h1 : PS X st t) : PSs X [st] t := by
  intro pins s σ H D I h
  refine wpAny_execs_cons (thn (h1 pins s σ H D I h) fun f s1 q => ?_)
  cases f with
  | next => exact wpAny_execs_nil q
  | ret v => exact q
  | brk => exact q
  | cont => exact q
def tRet (te : TE) : TS := fun D σ H => te σ H D.rt
theorem ps_ret (he : PE X e te) : PS X (.Return (some e) pos) (tRet te) := by
  intro pins s σ H D I h
  exact wpAny_Return_some (thn (he pins s σ H _ I h) fun v s1 ⟨x, H1, I1, r1, q1⟩ => ⟨x, σ, H1, I1, r1, q1⟩)
def tIfS (c : TT) (t u : TS) : TS := fun D σ H => c σ H fun b H1 => if b = true then t D σ H1 else u D σ H1
theorem ps_if {c : Expr} {a b : List Stmt} {tc : TT} (hc : PT X c tc) (ha : PSs X a t) (hb : PSs X b u) : PS X (.If c a b pos) (tIfS tc t u) := by
  intro pins s σ H D I h
  refine wpAny_If (thn (hc pins s σ H _ I h) fun d s1 ⟨H1, I1, q1⟩ => ?_)
  cases d with
  | true => exact ha pins s1 σ H1 D I1 q1
  | false => exact hb pins s1 σ H1 D I1 q1
end
abbrev TG := V → St → Hp → (St → Hp → Prop) → Prop
abbrev TGs := List V → St → Hp → (St → Hp → Prop) → Prop
def PG (X : Cx) (target : Expr) (t : TG) : Prop :=
  ∀ (pins : List (Addr × Obj)) (s : Shared) (σ : St) (H : Hp) (v : V) (u : Value) (Q : St → Hp → Prop), Inv X pins σ H s → RelV v u → t v σ H Q →
    wpAny (model X.prog X.w) X.A (assign target X.env u) (fun _ s' => ∃ σ' H', Inv X pins σ' H' s' ∧ Q σ' H') X.xe s
def PGs (X : Cx) (ts : List Expr) (t : TGs) : Prop :=
  ∀ (pins : List (Addr × Obj)) (s : Shared) (σ : St) (H : Hp) (vs : List V) (us : List Value) (Q : St → Hp → Prop), Inv X pins σ H s → Vals vs us → t vs σ H Q →
    wpAny (model X.prog X.w) X.A (assignInOrder ((assignEach ts X.env).map (·.2)) us) (fun _ s' => ∃ σ' H', Inv X pins σ' H' s' ∧ Q σ' H') X.xe s
abbrev TSet := V → V → V → Hp → (Hp → Prop) → Prop
def PSet (X : Cx) (t : TSet) : Prop :=
  ∀ (pins : List (Addr × Obj)) (s : Shared) (σ : St) (H : Hp) (o i v : V) (ov iv u : Value) (Q : Hp → Prop), Inv X pins σ H s → RelV o ov → RelV i iv → RelV v u → t o i v H Q →
    wpAny (model X.prog X.w) X.A (setItem ov iv u) (fun _ s' => ∃ H', Inv X pins σ H' s' ∧ Q H') X.xe s
section
variable {X : Cx} {pos : Pos}
def gName (i : Nat) : TG := fun v σ H Q => Q (σ.set i (some v)) H
theorem pg_name {i : Nat} {x : Str} (hN : X.N.Nodup) (hi : X.N[i]? = some x) (hx : Loc X.env.scope x) (hf : X.fn x = true ∨ X.env.scope.names.lookup x = some .local := by first | exact .inl rfl | exact .inr rfl | assumption) : PG X (.Name x pos) (gName i) := by
  intro pins s σ H v u Q I r h
  exact wpAny_assign_Name (store_ok I hN hi hx r (fun s' I' => ⟨_, H, I', h⟩) hf)
def gNil : TGs := fun vs σ H Q => vs = [] ∧ Q σ H
def gCons (t : TG) (u : TGs) : TGs := fun vs σ H Q => ∃ v r, vs = v :: r ∧ t v σ H fun σ' H' => u r σ' H' Q
theorem pgs_nil : PGs X [] gNil := by
  intro pins s σ H vs us Q I r h
  obtain ⟨e, h⟩ := h
  subst e
  cases r
  exact assignInOrder_nil ⟨σ, H, I, h⟩
theorem pgs_cons {e : Expr} {es : List Expr} {t : TG} {u : TGs} (h1 : PG X e t) (h2 : PGs X es u)
    (hs : (assignEach (e :: es) X.env).map (·.2) = assign e X.env :: (assignEach es X.env).map (·.2) := by rfl) : PGs X (e :: es) (gCons t u) := by
  intro pins s σ H vs us Q I r h
  obtain ⟨v, vr, e1, h⟩ := h
  subst e1
  cases r with
  | cons r rr =>
    rw [hs]
    refine assignInOrder_cons (thn (h1 pins s σ H _ _ _ I r h) fun _ s1 ⟨σ1, H1, I1, q1⟩ => ?_)
    exact h2 pins s1 σ1 H1 _ _ Q I1 rr q1
def gTup (K : PySem.W.Frag) (n : Nat) (t : TGs) : TG := fun v σ H Q => ∃ a xs, v = .ref a ∧ SqT K H a xs ∧ xs.length = n ∧ t xs σ H Q
theorem pg_tup {es : List Expr} {k : Nat} {t : TGs} {n : Nat} (hc : X.calm = true) (h : PGs X es t)
    (hn : (assignEach es X.env).length = n := by rfl) (hst : (assignEach es X.env).findIdx? (·.1) = none := by rfl) : PG X (.Tuple es k pos) (gTup X.K n t) := by
  intro pins s σ H v u Q I r hw
  obtain ⟨a, xs, e1, hq, hl, hw⟩ := hw
  subst e1
  cases r
  obtain ⟨its, rv, ht, hz⟩ := I.tuple hq
  refine assign_Tuple_tuple (I.ok.hd hc) ht (by simp [hn, ← hl, rv.length]) hst fun h' hx => ?_
  have I1 : Inv X pins σ H { s with heap := h' } := I.kept (t' := s.toks) fun b o e => hx b o (Nat.ne_of_lt (Heap.lt_size e)) e
  exact h pins _ σ H xs _ Q I1 (by simpa using rv) hw
def gSub (to ti : TE) (t : TSet) : TG := fun v σ H Q => to σ H fun o H1 => ti σ H1 fun i H2 => t o i v H2 fun H3 => Q σ H3
theorem pg_sub {o i : Expr} {to ti : TE} {t : TSet} (ho : PE X o to) (hi : PE X i ti) (hs : PSet X t)
    (ha : ∀ v, assign (.Subscript o i pos) X.env v = (do
      let ov ← holding [v] (eval o X.env)
      let iv ← holding [v, ov] (eval i X.env)
      standAt pos
      holding [v, ov, iv] (setItem ov iv v)
      release [v, ov, iv] []) := by intro _; rfl) : PG X (.Subscript o i pos) (gSub to ti t) := by
  intro pins s σ H v u Q I r h
  rw [ha]
  refine wpAny_bind (wpAny_holding (thn (ho pins s σ H _ I h) fun ov s1 ⟨x, H1, I1, r1, q1⟩ => ?_))
  refine wpAny_bind (wpAny_holding (thn (hi pins s1 σ H1 _ I1 q1) fun iv s2 ⟨y, H2, I2, r2, q2⟩ => ?_))
  refine wpAny_bind (wpAny_standAt (wpAny_bind (wpAny_holding (thn (hs pins s2 σ H2 x y v ov iv u _ I2 r1 r2 r q2) fun _ s3 ⟨H3, I3, q3⟩ => ?_))))
  exact wpAny_release ⟨σ, H3, I3, q3⟩
def tAsg (te : TE) (g : TG) : TS := fun D σ H => te σ H fun x H1 => g x σ H1 D.nx
theorem ps_asg {tg e : Expr} {te : TE} {g : TG} (he : PE X e te) (hg : PG X tg g) (hs : swapsWithSole [tg] e pos.line X.env = pure false := by rfl) (hw : swappedStores [tg] e X.env = pure none := by rfl)
    (h1 : (assignEach [tg] X.env).map (·.2) = [assign tg X.env] := by rfl) : PS X (.Assign [tg] e pos) (tAsg te g) := by
  intro pins s σ H D I h
  refine wpAny_Assign_stores (thn (he pins s σ H _ I h) fun v s1 ⟨x, H1, I1, r1, q1⟩ => ?_) hs hw
  rw [h1]
  exact thn (hg pins s1 σ H1 x v _ I1 r1 q1) fun _ s2 q => q
theorem ps_set {i : Nat} {x : Str} {e : Expr} {te : TE} {pos' : Pos} (hN : X.N.Nodup) (hi : X.N[i]? = some x) (hx : Loc X.env.scope x) (he : PE X e te) (hs : swapsWith e (some (.Name x pos')) pos.line X.env = pure false := by rfl) (hf : X.fn x = true ∨ X.env.scope.names.lookup x = some .local := by first | exact .inl rfl | exact .inr rfl | assumption) :
    PS X (.Assign [.Name x pos'] e pos) (tAsg te (gName i)) := by
  intro pins s σ H D I h
  refine wpAny_Assign_Name (thn (he pins s σ H _ I h) fun v s1 ⟨y, H1, I1, r1, q1⟩ => ?_) hs
  exact store_ok I1 hN hi hx r1 (fun s2 I2 => ⟨_, H1, I2, q1⟩) hf
def tPar (i j : Nat) (ta : TA) : TS := fun D σ H => ta σ H fun vs H1 => ∃ v w, vs = [v, w] ∧ D.nx ((σ.set i (some v)).set j (some w)) H1
theorem ps_par {i j : Nat} {x y : Str} {a b : Expr} {ta : TA} {px py pt : Pos} {kt k2 pt2} (hc : X.calm = true) (hN : X.N.Nodup) (hi : X.N[i]? = some x) (hj : X.N[j]? = some y) (hij : i ≠ j)
    (hx : X.env.scope.names.lookup x = some .local) (hy : X.env.scope.names.lookup y = some .local) (ha : PA X [a, b] ta)
    (hw : swappedStores [.Tuple [.Name x px, .Name y py] kt pt] (.Tuple [a, b] k2 pt2) X.env = pure (some [x, y]))
    (hs : swapsWithSole [.Tuple [.Name x px, .Name y py] kt pt] (.Tuple [a, b] k2 pt2) pos.line X.env = pure false := by rfl) :
    PS X (.Assign [.Tuple [.Name x px, .Name y py] kt pt] (.Tuple [a, b] k2 pt2) pos) (tPar i j ta) := by
  intro pins s σ H D I h
  rw [exec_Assign_arm]
  refine wpAny_bind (wpAny_standAt ?_)
  rw [hs]
  refine wpAny_bind (wpAny_pure ?_)
  rw [if_neg (by decide)]
  refine wpAny_bind (Tuple_ (thn (ha _ pins s σ H _ I h) fun us s1 ⟨vs, H1, I1, r1, q1⟩ => ?_))
  obtain ⟨v, w, e1, q1⟩ := q1
  subst e1
  obtain ⟨u1, u2, rfl, rv, rw'⟩ : ∃ u1 u2, us = [u1, u2] ∧ RelV v u1 ∧ RelV w u2 := by
    cases r1 with
    | cons p q =>
      cases q with
      | cons p' q' =>
        cases q'
        exact ⟨_, _, rfl, p, p'⟩
  refine wpAny_newObj_type ?_ (by show 2 ≤ sizeLine; decide)
  have I2 : Inv X pins σ H1 { s1 with heap := s1.heap.push { cls := .type "tuple", data := .seq [u1, u2].toArray } } := I1.kept (t' := s1.toks) fun b o e => Heap.get?_push_of_some _ e
  rw [hw]
  refine wpAny_bind (wpAny_pure ?_)
  show wpAny (model X.prog X.w) X.A (do rule "assign.swapped-stores"; let items ← unpackItems (.ref s1.heap.objs.size) 2 none; assignInOrder [fun v => bindName X.env y v, fun v => bindName X.env x v] items.reverse; pure Flow.next) _ _ _
  refine wpAny_bind (wpAny_rule (wpAny_bind (unpackItems_tuple (items := #[u1, u2]) (I.ok.hd hc) (IsTup.new s1.heap _) fun h' hx' => ?_)))
  have I3 := I2.kept (h' := h') (t' := s1.toks) fun b o e => hx' b o (Nat.ne_of_lt (Heap.lt_size e)) e
  show wpAny _ _ (assignInOrder [fun v => bindName X.env y v, fun v => bindName X.env x v] [u2, u1] >>= fun _ => pure Flow.next) _ _ _
  refine wpAny_bind (assignInOrder_cons (wpAny_bindName (store_ok I3 hN hj (.inl hy) rw' (fun s2 I4 => ?_) (.inr hy))))
  refine assignInOrder_cons (wpAny_bindName (store_ok I4 hN hi (.inl hx) rv (fun s3 I5 => assignInOrder_nil (wpAny_pure ?_)) (.inr hx)))
  rw [List.set_comm _ _ (Ne.symm hij)] at I5
  exact ⟨_, H1, I5, q1⟩
end
section
variable {X : Cx} {pos : Pos}
def tWhile (c : TT) (tb : TS) : TS := fun D σ H => ∃ W : Nat → St → Hp → Prop, (∃ m, W m σ H) ∧ ∀ m σ H, W m σ H →
  c σ H fun b H1 => if b = true then ∃ N : St → Hp → Prop, (∀ σ' H', N σ' H' → ∃ m', m' < m ∧ W m' σ' H') ∧ tb { D with nx := N, ct := N, bk := D.nx } σ H1 else D.nx σ H1
theorem ps_while {c : Expr} {body : List Stmt} {tc : TT} {tb : TS} (hp : PassesOwn (model X.prog X.w) X.A X.env X.xe) (hc : PT X c tc) (hb : PSs X body tb) : PS X (.While c body [] pos) (tWhile tc tb) := by
  intro pins s σ H D I h
  obtain ⟨W, ⟨m0, w0⟩, turn⟩ := h
  refine wpAny_While (codeAny_whileLoop (fun n s' => ∃ σ' H', Inv X pins σ' H' s' ∧ W n σ' H') ?_ m0 ⟨σ, H, I, w0⟩)
  rintro n s1 ⟨σ1, H1, I1, w1⟩
  refine wpAny_passesOwn hp (thn (hc pins s1 σ1 H1 _ I1 (turn n σ1 H1 w1)) fun b s2 ⟨H2, I2, q2⟩ => ?_)
  cases b with
  | true =>
    obtain ⟨N, hN, q2⟩ := q2
    rw [if_pos rfl]
    refine wpAny_passesOwn hp (thn (hb pins s2 σ1 H2 _ I2 q2) fun f s3 q3 => ?_)
    cases f with
    | next =>
      obtain ⟨σ3, H3, I3, n3⟩ := q3
      obtain ⟨m', hm, w3⟩ := hN σ3 H3 n3
      exact ⟨m', hm, σ3, H3, I3, w3⟩
    | cont =>
      obtain ⟨σ3, H3, I3, n3⟩ := q3
      obtain ⟨m', hm, w3⟩ := hN σ3 H3 n3
      exact ⟨m', hm, σ3, H3, I3, w3⟩
    | brk => exact q3
    | ret v => exact q3
  | false =>
    rw [if_neg Bool.false_ne_true]
    exact wpAny_execs_nil ⟨σ1, H2, I2, q2⟩
end
structure It where
  go : Nat → Hp → Prop
  yld : Nat → Hp → V → Hp → Prop
  stop : Nat → Hp → Prop
def FpOk (X : Cx) (pins : List (Addr × Obj)) (H : Hp) (b : Addr) : Prop :=
  H b = none ∧ b ≠ X.env.locals ∧ b ∉ X.fs ∧ (b ∈ X.ex ∨ X.s₀.heap.objs.size ≤ b) ∧ (∀ x c, X.env.cells.lookup x = some c → c ≠ b) ∧ ∀ p ∈ X.pn ++ pins, p.1 ≠ b
theorem Inv.fpOk {X : Cx} {pins : List (Addr × Obj)} {σ : St} {H H' : Hp} {s : Shared} {b : Addr} (I : Inv X pins σ H s) (hb : s.heap.objs.size ≤ b) (hn : H' b = none) : FpOk X pins H' b := by
  refine ⟨hn, Nat.ne_of_gt (Nat.lt_of_lt_of_le I.lt hb), I.nofs hb, .inr (Nat.le_trans I.sz hb), fun x c e z => ?_, fun p hp z => ?_⟩
  · obtain ⟨v, q⟩ := I.cell x c e
    exact absurd (Nat.lt_of_lt_of_le q.lt (by rw [z]; exact hb)) (Nat.lt_irrefl _)
  · exact absurd (Nat.lt_of_lt_of_le (Heap.lt_size (I.pin p hp).1) (by rw [z]; exact hb)) (Nat.lt_irrefl _)
structure Turn (P : Program) (w : World) (K : PySem.W.Frag) (tg : Expr) (J : It) (fp : List Addr) (it : Addr) (tn : Nat → Heap → Prop) : Prop where
  mem : it ∈ fp
  obj : ∀ i h, tn i h → ∀ b ∈ fp, ∃ o, h.get? b = some o ∧ ∀ v, o.data ≠ .cell v
  keep : ∀ i h h', tn i h → (∀ b ∈ fp, ∀ o, h.get? b = some o → h'.get? b = some o) → tn i h'
  item : ∀ (X : Cx), X.prog = P → X.w = w → X.K = K → X.calm = true → ∀ (i : Nat) (pins : List (Addr × Obj)) (s : Shared) (σ : St) (H : Hp) (E : Value → Shared → Prop), Inv X pins σ H s → (∀ b ∈ fp, FpOk X pins H b) → tn i s.heap → J.go i H →
    wpAny (model P w) X.A (pyNext (.ref it)) (fun r s1 => ∃ u, r = some u ∧
      wpAny (model P w) X.A (letOwnedTupleGo tg (.ref it) u) (fun _ s2 => ∃ x H', Inv X pins σ H' s2 ∧ RelV x u ∧ J.yld i H x H' ∧ tn (i + 1) s2.heap ∧ ∀ b ∈ fp, H' b = none) E s1) E s
  done : ∀ (X : Cx), X.prog = P → X.w = w → X.K = K → X.calm = true → ∀ (i : Nat) (pins : List (Addr × Obj)) (s : Shared) (σ : St) (H : Hp) (E : Value → Shared → Prop), Inv X pins σ H s → (∀ b ∈ fp, FpOk X pins H b) → tn i s.heap → J.stop i H →
    wpAny (model P w) X.A (pyNext (.ref it)) (fun r s1 => r = none ∧ Inv X pins σ H s1) E s
  self : ∀ (A : Around) (i : Nat) (s : Shared) (Q : Value → Shared → Prop) (E : Value → Shared → Prop), tn i s.heap → Q (.ref it) s → wpAny (model P w) A (pyIter (.ref it)) Q E s
abbrev TI := St → Hp → (It → Hp → Prop) → Prop
def PIE (X : Cx) (pins : List (Addr × Obj)) (σ : St) (tg : Expr) (R : It → Hp → Prop) (itv : Value) (s2 : Shared) : Prop :=
  ∃ (it : Addr) (fp : List Addr) (tn : Nat → Heap → Prop) (J : It) (H' : Hp), itv = .ref it ∧ Inv X pins σ H' s2 ∧ Turn X.prog X.w X.K tg J fp it tn ∧ tn 0 s2.heap ∧ (∀ b ∈ fp, FpOk X pins H' b) ∧ R J H'
def PI (X : Cx) (tg iter : Expr) (wi : TI) : Prop :=
  ∀ (pins : List (Addr × Obj)) (s : Shared) (σ : St) (H : Hp) (R : It → Hp → Prop), Inv X pins σ H s → wi σ H R →
    wpAny (model X.prog X.w) X.A (eval iter X.env) (fun v s1 => wpAny (model X.prog X.w) X.A (pyIter v) (PIE X pins σ tg R) X.xe s1) X.xe s
theorem go_of {M : Model} {A : Around} {E : Value → Shared → Prop} {s : Shared} {tg : Expr} {it : Addr} {u : Value} {o : Obj} {n : String} {vs : Array Value} {Q : Unit → Shared → Prop} (ho : s.heap.get? it = some o) (hc : o.cls = .type n) (hd : o.data = .fields vs)
    (hn : ["enumerate", "zip", "dict_itemiterator", "dict_reverseitemiterator", "odict_iterator", "itertools.zip_longest", "itertools.pairwise"].contains n = false) (hQ : Q () s) : wpAny M A (letOwnedTupleGo tg (.ref it) u) Q E s := by
  unfold letOwnedTupleGo
  cases tg <;> first
    | exact wpAny_pure hQ
    | (cases u <;> first
        | exact wpAny_pure hQ
        | (refine wpAny_bind (wpAny_load ho ?_)
           rw [hc, hd]
           show wpAny M A (if (["enumerate", "zip", "dict_itemiterator", "dict_reverseitemiterator", "odict_iterator", "itertools.zip_longest", "itertools.pairwise"].contains n && vs[0]? == some (rawInt _)) = true then _ else _) Q E s
           rw [if_neg (by intro h; rw [hn, Bool.false_and] at h; cases h)]
           exact wpAny_pure hQ))
def Itl (K : PySem.W.Frag) (a : Addr) : It :=
  ⟨fun i H => ∃ xs x, SqL K H a xs ∧ xs[i]? = some x, fun i H x H' => H' = H ∧ ∀ xs, SqL K H a xs → xs[i]? = some x, fun i H => ∃ xs, SqL K H a xs ∧ xs.length ≤ i⟩
def Itt (K : PySem.W.Frag) (a : Addr) : It :=
  ⟨fun i H => ∃ xs x, SqT K H a xs ∧ xs[i]? = some x, fun i H x H' => H' = H ∧ ∀ xs, SqT K H a xs → xs[i]? = some x, fun i H => ∃ xs, SqT K H a xs ∧ xs.length ≤ i⟩
def Itr (lo : Int) (n : Nat) : It := ⟨fun i _ => i < n, fun i H x H' => H' = H ∧ x = .int (lo + i), fun i _ => n ≤ i⟩
theorem turn_list {P : Program} {w : World} {K : PySem.W.Frag} {tg : Expr} (a it : Addr) : Turn P w K tg (Itl K a) [it] it (fun i h => h.IsListIter it a i) where
  mem := by simp
  obj := fun i h st b hb => by
    have e : b = it := by simpa using hb
    subst e
    obtain ⟨o, e, c, d⟩ := st
    exact ⟨o, e, fun v z => by rw [d] at z; cases z⟩
  keep := fun i h h' st k => st.at fun o e => k it (by simp) o e
  item := by
    intro X hP hw hK hc i pins s σ H E I hf st hg
    subst hP hw hK
    obtain ⟨xs, x, hq, hx⟩ := hg
    obtain ⟨its, rv, p, hz⟩ := I.list hq
    obtain ⟨u, hu, ru⟩ := rv.get hx
    obtain ⟨f0, f1, f2, f3, f4, f5⟩ := hf it (by simp)
    refine wpAny_pyNext_list_item st p.isList (x := u) (by simpa using hu) fun h' st' sb => ?_
    have I1 : Inv X pins σ H { s with heap := h' } := I.turned (t' := s.toks) (fun b o hb e => (sb.2 b hb).trans e) f0 f1 f3 f4 f5
    obtain ⟨o, e, c, d⟩ := id st'
    exact ⟨u, rfl, go_of (s := { s with heap := h' }) e c d (by decide) ⟨x, H, I1, ru, ⟨rfl, fun ys hy => by rw [I.list_inj hy hq]; exact hx⟩, st', fun b hb => (hf b hb).1⟩⟩
  done := by
    intro X hP hw hK hc i pins s σ H E I hf st hg
    subst hP hw hK
    obtain ⟨xs, hq, hx⟩ := hg
    obtain ⟨its, rv, p, hz⟩ := I.list hq
    obtain ⟨f0, f1, f2, f3, f4, f5⟩ := hf it (by simp)
    have hl := rv.length
    exact wpAny_pyNext_list_end (I.ok.hd hc) st p.isList (by simp; omega) fun h' eb => ⟨rfl, I.turned (t' := s.toks) (fun b o hb e => eb b o hb e) f0 f1 f3 f4 f5⟩
  self := fun _ _ _ _ _ st h => wpAny_pyIter_listiter st h
theorem turn_tuple {P : Program} {w : World} {K : PySem.W.Frag} {tg : Expr} (a it : Addr) : Turn P w K tg (Itt K a) [it] it (fun i h => h.IsTupleIter it a i) where
  mem := by simp
  obj := fun i h st b hb => by
    have e : b = it := by simpa using hb
    subst e
    obtain ⟨o, e, c, d⟩ := st
    exact ⟨o, e, fun v z => by rw [d] at z; cases z⟩
  keep := fun i h h' st k => st.at fun o e => k it (by simp) o e
  item := by
    intro X hP hw hK hc i pins s σ H E I hf st hg
    subst hP hw hK
    obtain ⟨xs, x, hq, hx⟩ := hg
    obtain ⟨its, rv, p, hz⟩ := I.tuple hq
    obtain ⟨u, hu, ru⟩ := rv.get hx
    obtain ⟨f0, f1, f2, f3, f4, f5⟩ := hf it (by simp)
    refine wpAny_pyNext_tuple_item st (show s.heap.IsTuple a its.toArray from p) (x := u) (by simpa using hu) fun h' st' sb => ?_
    have I1 : Inv X pins σ H { s with heap := h' } := I.turned (t' := s.toks) (fun b o hb e => (sb.2 b hb).trans e) f0 f1 f3 f4 f5
    obtain ⟨o, e, c, d⟩ := id st'
    exact ⟨u, rfl, go_of (s := { s with heap := h' }) e c d (by decide) ⟨x, H, I1, ru, ⟨rfl, fun ys hy => by rw [I.tuple_inj hy hq]; exact hx⟩, st', fun b hb => (hf b hb).1⟩⟩
  done := by
    intro X hP hw hK hc i pins s σ H E I hf st hg
    subst hP hw hK
    obtain ⟨xs, hq, hx⟩ := hg
    obtain ⟨its, rv, p, hz⟩ := I.tuple hq
    obtain ⟨f0, f1, f2, f3, f4, f5⟩ := hf it (by simp)
    have hl := rv.length
    exact wpAny_pyNext_tuple_end (I.ok.hd hc) st (show s.heap.IsTuple a its.toArray from p) (by simp; omega) fun h' eb => ⟨rfl, I.turned (t' := s.toks) (fun b o hb e => eb b o hb e) f0 f1 f3 f4 f5⟩
  self := fun _ _ _ _ _ st h => wpAny_pyIter_tupleiter st h
theorem turn_range {P : Program} {w : World} {K : PySem.W.Frag} {tg : Expr} (it : Addr) (lo : Int) (n : Nat) : Turn P w K tg (Itr lo n) [it] it (fun i h => IsRangeIter h it (lo + (i : Nat) * 1) ((n : Int) - (i : Nat)) 1) where
  mem := by simp
  obj := fun i h st b hb => by
    have e : b = it := by simpa using hb
    subst e
    exact ⟨_, st, fun v z => by
      have z' : Data.fields _ = Data.cell v := z
      cases z'⟩
  keep := fun i h h' st k => k it (by simp) _ st
  item := by
    intro X hP hw hK hc i pins s σ H E I hf st hg
    subst hP hw hK
    obtain ⟨f0, f1, f2, f3, f4, f5⟩ := hf it (by simp)
    have W := Walks.range (prog := X.prog) (w := X.w) (I.ok.hd hc) it lo 1 n
    refine W.item i s _ _ hg st fun v h' tk hv st' kk => ?_
    obtain ⟨t, rfl⟩ := hv
    have I1 : Inv X pins σ H { s with heap := h', toks := tk } := I.turned (fun b o hb e => kk b o (by simpa using hb) e) f0 f1 f3 f4 f5
    refine ⟨_, rfl, go_of (s := { s with heap := h', toks := tk }) (n := "range_iterator") st' rfl rfl (by decide) ⟨.int (lo + i), H, I1, ⟨t, ?_⟩, ⟨rfl, rfl⟩, st', fun b hb => (hf b hb).1⟩⟩
    rw [Int.mul_one]
  done := by
    intro X hP hw hK hc i pins s σ H E I hf st hg
    subst hP hw hK
    obtain ⟨f0, f1, f2, f3, f4, f5⟩ := hf it (by simp)
    exact wpAny_pyNext_range_end (I.ok.hd hc) st (by have : n ≤ i := hg; omega) fun h' eb => ⟨rfl, I.turned (t' := s.toks) (fun b o hb e => eb b o hb e) f0 f1 f3 f4 f5⟩
  self := fun _ _ _ _ _ st h => wpAny_pyIter_rangeiter st h
end L2
namespace L2
open PySem PySem.Spec PyProof.Rows
section
variable {X : Cx} {tg : Expr}
theorem range_it {pins : List (Addr × Obj)} {σ : St} {H : Hp} {s : Shared} {R : It → Hp → Prop} {E : Value → Shared → Prop} {lo hi : Int} {t u v : Tok} {tk : Nat} (I : Inv X pins σ H s) (h1 : -(2 ^ 62) ≤ lo) (h2 : lo < 2 ^ 62) (h3 : -(2 ^ 62) ≤ hi) (h4 : hi < 2 ^ 62)
    (q : R (Itr lo (hi - lo).toNat) H) : wpAny (model X.prog X.w) X.A (pyIter (.ref s.heap.objs.size)) (PIE X pins σ tg R) E { s with heap := s.heap.push { cls := .type "range", data := .fields #[.int lo t, .int hi u, .int 1 v] }, toks := tk } := by
  refine wpAny_pyIter_range (IsRange.new ..) (small_one h1 h2 h3 h4) ?_
  have I1 : Inv X pins σ H { s with heap := s.heap.push { cls := .type "range", data := .fields #[.int lo t, .int hi u, .int 1 v] }, toks := tk } := I.kept fun b o e => Heap.get?_push_of_some _ e
  refine ⟨(s.heap.push { cls := .type "range", data := .fields #[.int lo t, .int hi u, .int 1 v] }).objs.size, [(s.heap.push { cls := .type "range", data := .fields #[.int lo t, .int hi u, .int 1 v] }).objs.size], _, _, H, rfl,
    I1.kept (t' := tk) fun b o e => Heap.get?_push_of_some _ e, turn_range _ lo (hi - lo).toNat, ?_, fun b hb => ?_, q⟩
  · have e1 : lo + ((0 : Nat) : Int) * 1 = lo := by simp
    have e2 : (((hi - lo).toNat : Nat) : Int) - ((0 : Nat) : Int) = Builtin.Range.rangeSize lo hi 1 := by rw [rangeSize_one]; split <;> omega
    show IsRangeIter _ _ (lo + ((0 : Nat) : Int) * 1) ((((hi - lo).toNat : Nat) : Int) - ((0 : Nat) : Int)) 1
    rw [e1, e2]
    exact Heap.get?_push_size _ rfl
  · have e : b = (s.heap.push { cls := .type "range", data := .fields #[.int lo t, .int hi u, .int 1 v] }).objs.size := by simpa using hb
    subst e
    exact I1.fpOk (Nat.le_refl _) (I1.hok.fresh (Nat.le_refl _))
def iRng1 (ta : TA) : TI := fun σ H R => ta σ H fun vs H1 => ∃ j : Int, vs = [.int j] ∧ -(2 ^ 62) ≤ j ∧ j < 2 ^ 62 ∧ R (Itr 0 j.toNat) H1
def iRng2 (ta : TA) : TI := fun σ H R => ta σ H fun vs H1 => ∃ i j : Int, vs = [.int i, .int j] ∧ (-(2 ^ 62) ≤ i ∧ i < 2 ^ 62 ∧ -(2 ^ 62) ≤ j ∧ j < 2 ^ 62) ∧ R (Itr i (j - i).toNat) H1
theorem pi_range1 {a : Expr} {ta : TA} {p pos : Pos} (hg : Gl X "range") (hm : X.mg "range" = none) (ha : PA X [a] ta) (hs : starEach [a] X.env = [(false, eval a X.env)] := by rfl) : PI X tg (.Call (.Name "range" p) [a] [] pos) (iRng1 ta) := by
  intro pins s σ H R I h
  refine Call_ (ld_blt I hg hm boot_range (PyProof.Rows.callWith_type1 (thn (ha pos pins s σ H _ I h) fun us s1 ⟨vs, H1, I1, r1, q1⟩ => ?_) hs rfl))
  obtain ⟨j, e, q1, q2, q⟩ := q1
  subst e
  cases r1 with
  | cons r rr =>
    cases rr
    obtain ⟨t, rfl⟩ := r
    exact call_range_1 (range_it I1 (by omega) (by omega) q1 q2 (by simpa using q))
theorem pi_range2 {a b : Expr} {ta : TA} {p pos : Pos} (hg : Gl X "range") (hm : X.mg "range" = none) (ha : PA X [a, b] ta) (hs : starEach [a, b] X.env = [(false, eval a X.env), (false, eval b X.env)] := by rfl) (hs2 : starEach [b] X.env = [(false, eval b X.env)] := by rfl) :
    PI X tg (.Call (.Name "range" p) [a, b] [] pos) (iRng2 ta) := by
  intro pins s σ H R I h
  refine Call_ (ld_blt I hg hm boot_range (PyProof.Rows.callWith_type1 (thn (ha pos pins s σ H _ I h) fun us s1 ⟨vs, H1, I1, r1, q1⟩ => ?_) (by rw [hs, hs2]) (by rw [hs2]; rfl)))
  obtain ⟨i, j, e, ⟨q1, q2, q3, q4⟩, q⟩ := q1
  subst e
  cases r1 with
  | cons r rr =>
    cases rr with
    | cons r' rr =>
      cases rr
      obtain ⟨t, rfl⟩ := r
      obtain ⟨t', rfl⟩ := r'
      exact call_range_2 (range_it I1 q1 q2 q3 q4 q)
def tFor (wi : TI) (g : TG) (tb : TS) : TS := fun D σ H => wi σ H fun J H1 => ∃ W : Nat → Nat → St → Hp → Prop, (∃ m, W 0 m σ H1) ∧ ∀ i m σ H, W i m σ H →
  (J.stop i H ∧ D.nx σ H) ∨ (J.go i H ∧ ∃ N : St → Hp → Prop, (∀ σ' H', N σ' H' → ∃ m', m' < m ∧ W (i + 1) m' σ' H') ∧ ∀ x H', J.yld i H x H' → g x σ H' fun σ2 H2 => tb { D with nx := N, ct := N, bk := D.nx } σ2 H2)
def pinsAt (fp : List Addr) (h : Heap) : List (Addr × Obj) := fp.filterMap fun b => (h.get? b).map fun o => (b, o)
theorem mem_pinsAt {fp : List Addr} {h : Heap} {b : Addr} {o : Obj} (hb : b ∈ fp) (e : h.get? b = some o) : (b, o) ∈ pinsAt fp h := List.mem_filterMap.mpr ⟨b, hb, by rw [e]; rfl⟩
theorem of_pinsAt {fp : List Addr} {h : Heap} {p : Addr × Obj} (hp : p ∈ pinsAt fp h) : p.1 ∈ fp ∧ h.get? p.1 = some p.2 := by
  obtain ⟨b, hb, e⟩ := List.mem_filterMap.mp hp
  cases q : h.get? b with
  | none => rw [q] at e; cases e
  | some o =>
    rw [q] at e
    have e' : (b, o) = p := Option.some.inj e
    subst e'
    exact ⟨hb, q⟩
theorem Inv.pinned {pins : List (Addr × Obj)} {σ : St} {H : Hp} {s : Shared} {fp : List Addr} (I : Inv X pins σ H s) (hf : ∀ b ∈ fp, FpOk X pins H b) (ho : ∀ b ∈ fp, ∃ o, s.heap.get? b = some o ∧ ∀ v, o.data ≠ .cell v) : Inv X (pins ++ pinsAt fp s.heap) σ H s :=
  I.pins_of fun p hp => (List.mem_append.mp hp).elim (fun z => I.pin p (List.mem_append_right _ z)) fun z => by
    obtain ⟨hb, e⟩ := of_pinsAt z
    obtain ⟨f0, f1, f2, _⟩ := hf p.1 hb
    obtain ⟨o, e', d⟩ := ho p.1 hb
    rw [e] at e'; cases e'
    exact ⟨e, f0, f1, f2, d⟩
theorem Inv.unpinned {pins pl : List (Addr × Obj)} {σ : St} {H : Hp} {s : Shared} (I : Inv X (pins ++ pl) σ H s) : Inv X pins σ H s := I.pins_of fun p hp => I.pin p (List.mem_append_right _ (List.mem_append_left _ hp))
theorem ps_for {iter : Expr} {body : List Stmt} {wi : TI} {g : TG} {tb : TS} {pos : Pos} (hp : PassesOwn (model X.prog X.w) X.A X.env X.xe) (hc : X.calm = true) (hi : PI X tg iter wi) (hg : PG X tg g) (hb : PSs X body tb)
    (hs : ∀ x, foldedSetIterable iter X.env x = pure x := by intro _; rfl) : PS X (.For tg iter body [] pos) (tFor wi g tb) := by
  intro pins s σ H D I h
  refine wpAny_For (thn (hi pins s σ H _ I h) fun v s1 h1 => thn h1 fun itv s2 h2 => ?_) hs
  obtain ⟨it, fp, tn, J, H2, e, I2, T, st2, f2, W, ⟨m0, w0⟩, turn⟩ := h2
  subst e
  -- what stays true of the iterator's objects through the loop
  have stat : ∀ {H' : Hp}, (∀ b ∈ fp, H' b = none) → ∀ b ∈ fp, FpOk X pins H' b := fun hn b hb => ⟨hn b hb, (f2 b hb).2⟩
  refine codeAny_forLoop_any (fun n s' => ∃ i σ' H', Inv X pins σ' H' s' ∧ tn i s'.heap ∧ (∀ b ∈ fp, H' b = none) ∧ W i n σ' H') ?_ m0 ⟨0, σ, H2, I2, st2, fun b hb => (f2 b hb).1, w0⟩
  rintro n s3 ⟨i, σ3, H3, I3, st3, fr3, w3⟩
  rcases turn i n σ3 H3 w3 with ⟨stop, qn⟩ | ⟨go, N, hN, step⟩
  · refine wpAny_passesOwn hp (thn (T.done X rfl rfl rfl hc i pins s3 σ3 H3 X.xe I3 (stat fr3) st3 stop) fun r s4 ⟨hr, I4⟩ => ?_)
    subst hr
    exact wpAny_execs_nil ⟨σ3, H3, I4, qn⟩
  · refine wpAny_passesOwn hp (thn (T.item X rfl rfl rfl hc i pins s3 σ3 H3 X.xe I3 (stat fr3) st3 go) fun r s4 ⟨u, hr, h4⟩ => ?_)
    subst hr
    refine wpAny_passesOwn hp (thn h4 fun _ s5 ⟨x, H5, I5, r5, y5, st5, fr5⟩ => ?_)
    have I5' := I5.pinned (stat fr5) (T.obj _ _ st5)
    refine wpAny_passesOwn hp (thn (hg _ s5 σ3 H5 x u _ I5' r5 (step x H5 y5)) fun _ s6 ⟨σ6, H6, I6, q6⟩ => ?_)
    refine wpAny_passesOwn hp (thn (hb _ s6 σ6 H6 _ I6 q6) fun f s7 q7 => ?_)
    have again : ∀ {σ7 : St} {H7 : Hp}, Inv X (pins ++ pinsAt fp s5.heap) σ7 H7 s7 → N σ7 H7 → ∃ m, m < n ∧ ∃ i σ' H', Inv X pins σ' H' s7 ∧ tn i s7.heap ∧ (∀ b ∈ fp, H' b = none) ∧ W i m σ' H' := fun {σ7 H7} I7 n7 => by
      obtain ⟨m', hm, w7⟩ := hN σ7 H7 n7
      refine ⟨m', hm, i + 1, σ7, H7, I7.unpinned, T.keep _ _ _ st5 fun b hb o e => (I7.pin (b, o) (List.mem_append_right _ (List.mem_append_right _ (mem_pinsAt hb e)))).1, fun b hb => ?_, w7⟩
      obtain ⟨o, e, d⟩ := T.obj _ _ st5 b hb
      exact (I7.pin (b, o) (List.mem_append_right _ (List.mem_append_right _ (mem_pinsAt hb e)))).2.1
    cases f with
    | next => obtain ⟨σ7, H7, I7, n7⟩ := q7; exact again I7 n7
    | cont => obtain ⟨σ7, H7, I7, n7⟩ := q7; exact again I7 n7
    | brk => obtain ⟨σ7, H7, I7, q7⟩ := q7; exact ⟨σ7, H7, I7.unpinned, q7⟩
    | ret v => obtain ⟨x7, σ7, H7, I7, r7, q7⟩ := q7; exact ⟨x7, σ7, H7, I7.unpinned, r7, q7⟩
end
theorem for_range {lo : Int} {n : Nat} {g : TG} {tb : TS} {D : Ends} {σ : St} {H : Hp} (Pv : Nat → St → Hp → Prop) (h0 : Pv 0 σ H)
    (hs : ∀ i σ H, i < n → Pv i σ H → g (.int (lo + i)) σ H fun σ2 H2 => tb { D with nx := Pv (i + 1), ct := Pv (i + 1), bk := D.nx } σ2 H2) (hd : ∀ σ H, Pv n σ H → D.nx σ H) :
    ∃ W : Nat → Nat → St → Hp → Prop, (∃ m, W 0 m σ H) ∧ ∀ i m σ H, W i m σ H →
      ((Itr lo n).stop i H ∧ D.nx σ H) ∨ ((Itr lo n).go i H ∧ ∃ N : St → Hp → Prop, (∀ σ' H', N σ' H' → ∃ m', m' < m ∧ W (i + 1) m' σ' H') ∧ ∀ x H', (Itr lo n).yld i H x H' → g x σ H' fun σ2 H2 => tb { D with nx := N, ct := N, bk := D.nx } σ2 H2) := by
  refine ⟨fun i m σ H => m = n - i ∧ i ≤ n ∧ Pv i σ H, ⟨n, by simp, Nat.zero_le _, h0⟩, ?_⟩
  rintro i m σ H ⟨rfl, hi, p⟩
  by_cases hlt : i < n
  · refine .inr ⟨hlt, Pv (i + 1), fun σ' H' p' => ⟨n - (i + 1), by omega, rfl, hlt, p'⟩, fun x H' y => ?_⟩
    obtain ⟨e, y⟩ := y
    subst e y
    exact hs i σ _ hlt p
  · have e : i = n := by omega
    subst e
    exact .inl ⟨Nat.le_refl _, hd σ H p⟩
end L2
namespace L2
open PySem PySem.Spec PyProof.Rows
abbrev R2 := V → V → Hp → VK → Prop
def OpR (X : Cx) (f : Value → Value → Sem Value) (r : R2) : Prop :=
  ∀ (pins : List (Addr × Obj)) (s : Shared) (σ : St) (H : Hp) (x y : V) (v u : Value) (Q : VK), Inv X pins σ H s → RelV x v → RelV y u → r x y H Q →
    wpAny (model X.prog X.w) X.A (f v u) (EP X pins σ Q) X.xe s
def UnR (X : Cx) (f : Value → Sem Value) (r : V → Hp → VK → Prop) : Prop :=
  ∀ (pins : List (Addr × Obj)) (s : Shared) (σ : St) (H : Hp) (x : V) (v : Value) (Q : VK), Inv X pins σ H s → RelV x v → r x H Q →
    wpAny (model X.prog X.w) X.A (f v) (EP X pins σ Q) X.xe s
def CallR (X : Cx) (f : Value) (r : List V → Hp → VK → Prop) : Prop :=
  ∀ (pins : List (Addr × Obj)) (s : Shared) (σ : St) (H : Hp) (xs : List V) (us : List Value) (Q : VK), Inv X pins σ H s → Vals xs us → r xs H Q →
    wpAny (model X.prog X.w) X.A (call f us) (EP X pins σ Q) X.xe s
def tOp (r : R2) (ta tb : TE) : TE := fun σ H Q => ta σ H fun x H1 => tb σ H1 fun y H2 => r x y H2 Q
def tUn (r : V → Hp → VK → Prop) (ta : TE) : TE := fun σ H Q => ta σ H fun x H1 => r x H1 Q
def rI (C : Int → Int → Prop) (g : Int → Int → V) : R2 := fun x y H Q => ∃ i j, x = .int i ∧ y = .int j ∧ C i j ∧ Q (g i j) H
def rI0 (g : Int → Int → V) : R2 := fun x y H Q => ∃ i j, x = .int i ∧ y = .int j ∧ Q (g i j) H
def rU (g : Int → V) : V → Hp → VK → Prop := fun x H Q => ∃ i, x = .int i ∧ Q (g i) H
section
variable {X : Cx} {a b c : Expr} {ta tb tc : TE} {pos : Pos}
theorem binT (ha : PE X a ta) (hb : PE X b tb) {pins : List (Addr × Obj)} {s : Shared} {σ : St} {H : Hp} {R : V → V → Hp → Prop} (I : Inv X pins σ H s)
    (h : ta σ H fun x H1 => tb σ H1 fun y H2 => R x y H2) {Q : Value → Shared → Prop} {f : Value → Value → Sem Value}
    (hf : ∀ v u s2 x y H2, Inv X pins σ H2 s2 → RelV x v → RelV y u → R x y H2 → wpAny (model X.prog X.w) X.A (f v u) Q X.xe s2) :
    wpAny (model X.prog X.w) X.A (eval a X.env) (fun v s₁ => wpAny (model X.prog X.w) X.A (eval b X.env) (fun u s₂ => wpAny (model X.prog X.w) X.A (f v u) Q X.xe s₂) X.xe s₁) X.xe s := by
  refine thn (ha pins s σ H _ I h) fun v s1 ⟨x, H1, I1, r1, q1⟩ => ?_
  refine thn (hb pins s1 σ H1 _ I1 q1) fun u s2 ⟨y, H2, I2, r2, q2⟩ => ?_
  exact hf v u s2 x y H2 I2 r1 r2 q2
theorem pe_op {op : Operator} {r : R2} (ho : OpR X (binaryOp op) r) (ha : PE X a ta) (hb : PE X b tb) : PE X (.BinOp a op b pos) (tOp r ta tb) := by
  intro pins s σ H Q I h
  exact wpAny_BinOp (binT ha hb I h fun v u s2 x y H2 I2 rx ry q => ho pins s2 σ H2 x y v u Q I2 rx ry q)
theorem pe_un {op : UnaryOp} {r : V → Hp → VK → Prop} (ho : UnR X (unaryOp op) r) (ha : PE X a ta) : PE X (.UnaryOp op a pos) (tUn r ta) := by
  intro pins s σ H Q I h
  exact UnaryOp_ (thn (ha pins s σ H _ I h) fun v s1 ⟨x, H1, I1, r1, q1⟩ => ho pins s1 σ H1 x v Q I1 r1 q1)
theorem opI {f : Value → Value → Sem Value} {C : Int → Int → Prop} {g : Int → Int → Int}
    (rule : ∀ (i j : Int) (t u : Tok) (s : Shared) (Q : Value → Shared → Prop) (E : Value → Shared → Prop), C i j → Q (.int (g i j) s.toks) { s with toks := s.toks + 1 } → wpAny (model X.prog X.w) X.A (f (.int i t) (.int j u)) Q E s) :
    OpR X f (rI C fun i j => .int (g i j)) := by
  intro pins s σ H x y v u Q I rx ry h
  obtain ⟨i, j, rfl, rfl, hc, q⟩ := h
  obtain ⟨t, rfl⟩ := rx
  obtain ⟨t', rfl⟩ := ry
  exact rule i j t t' s _ _ hc ⟨.int (g i j), H, I.tok _, ⟨_, rfl⟩, q⟩
theorem opI0 {f : Value → Value → Sem Value} {g : Int → Int → Int}
    (rule : ∀ (i j : Int) (t u : Tok) (s : Shared) (Q : Value → Shared → Prop) (E : Value → Shared → Prop), Q (.int (g i j) s.toks) { s with toks := s.toks + 1 } → wpAny (model X.prog X.w) X.A (f (.int i t) (.int j u)) Q E s) :
    OpR X f (rI0 fun i j => .int (g i j)) := by
  intro pins s σ H x y v u Q I rx ry h
  obtain ⟨i, j, rfl, rfl, q⟩ := h
  obtain ⟨t, rfl⟩ := rx
  obtain ⟨t', rfl⟩ := ry
  exact rule i j t t' s _ _ ⟨.int (g i j), H, I.tok _, ⟨_, rfl⟩, q⟩
theorem opB0 {f : Value → Value → Sem Value} {g : Int → Int → Bool}
    (rule : ∀ (i j : Int) (t u : Tok) (s : Shared) (Q : Value → Shared → Prop) (E : Value → Shared → Prop), Q (.bool (g i j)) s → wpAny (model X.prog X.w) X.A (f (.int i t) (.int j u)) Q E s) :
    OpR X f (rI0 fun i j => .bl (g i j)) := by
  intro pins s σ H x y v u Q I rx ry h
  obtain ⟨i, j, rfl, rfl, q⟩ := h
  obtain ⟨t, rfl⟩ := rx
  obtain ⟨t', rfl⟩ := ry
  exact rule i j t t' s _ _ ⟨.bl (g i j), H, I, rfl, q⟩
def CPow (i j : Int) : Prop := 0 ≤ j ∧ j ≤ 1000000 ∧ i.natAbs < 2 ^ 64
def CMul (i j : Int) : Prop := (-(2 ^ 64) < i ∧ i < 2 ^ 64) ∨ (-(2 ^ 64) < j ∧ j < 2 ^ 64)
theorem CMul.ok {i j : Int} (h : CMul i j) : IntMulOk i j := by
  rcases h with ⟨h1, h2⟩ | ⟨h1, h2⟩
  · exact .of_left (intBits_le_64 h1 h2)
  · exact .of_right (intBits_le_64 h1 h2)
theorem op_add : OpR X (binaryOp .Add) (rI0 fun i j => .int (i + j)) := opI0 fun _ _ _ _ _ _ _ q => add_int q
theorem op_sub : OpR X (binaryOp .Sub) (rI0 fun i j => .int (i - j)) := opI0 fun _ _ _ _ _ _ _ q => sub_int q
theorem op_modN : OpR X (binaryOp .Mod) (rI (fun _ j => j ≠ 0) fun i j => .int (i.fmod j)) := opI fun _ _ _ _ _ _ _ hc q => mod_int' hc q
theorem op_pow : OpR X (binaryOp .Pow) (rI CPow fun i j => .int (i ^ j.toNat)) := opI fun _ _ _ _ _ _ _ hc q => pow_int_small hc.1 hc.2.1 hc.2.2 q
theorem unI {f : Value → Sem Value} {g : Int → Int}
    (rule : ∀ (i : Int) (t : Tok) (s : Shared) (Q : Value → Shared → Prop) (E : Value → Shared → Prop), Q (.int (g i) s.toks) { s with toks := s.toks + 1 } → wpAny (model X.prog X.w) X.A (f (.int i t)) Q E s) :
    UnR X f (rU fun i => .int (g i)) := by
  intro pins s σ H x v Q I rx h
  obtain ⟨i, rfl, q⟩ := h
  obtain ⟨t, rfl⟩ := rx
  exact rule i t s _ _ ⟨.int (g i), H, I.tok _, ⟨_, rfl⟩, q⟩
theorem un_neg : UnR X (unaryOp .USub) (rU fun i => .int (-i)) := unI fun _ _ _ _ _ q => neg_int q
end
def scal : V → V → Bool
  | .non, .non => true | .non, .int _ => true | .int _, .non => true | .non, .bl _ => true | .bl _, .non => true | .non, .str _ => true | .str _, .non => true
  | .int _, .int _ => true | .bl _, .bl _ => true | .str _, .str _ => true | .byt _, .byt _ => true
  | .int _, .str _ => true | .str _, .int _ => true | .bl _, .str _ => true | .str _, .bl _ => true
  | _, _ => false
def rNe : R2 := fun x y H Q => scal x y = true ∧ Q (.bl (!decide (x = y))) H
theorem dec_int {i j : Int} : decide (V.int i = V.int j) = (i == j) := by
  rw [Bool.eq_iff_iff]
  simp
theorem dec_bl {i j : Bool} : decide (V.bl i = V.bl j) = (i == j) := by
  rw [Bool.eq_iff_iff]
  simp
theorem dec_str {i j : Str} : decide (V.str i = V.str j) = (i == j) := by
  rw [Bool.eq_iff_iff]
  simp
theorem dec_byt {i j : Array UInt8} : decide (V.byt i = V.byt j) = (i.toList == j.toList) := by
  rw [Bool.eq_iff_iff]
  cases i
  cases j
  simp
section
variable {X : Cx} {a b c : Expr} {ta tb tc : TE} {pos : Pos}
theorem fin_bl {pins : List (Addr × Obj)} {σ : St} {H : Hp} {s : Shared} {Q : VK} {k k' : Bool} (I : Inv X pins σ H s) (q : Q (.bl k) H) (e : k = k') : EP X pins σ Q (.bool k') s := by
  subst e
  exact ⟨.bl k, H, I, rfl, q⟩
theorem op_ne : OpR X (compareOp .NotEq) rNe := by
  intro pins s σ H x y v u Q I rx ry h
  obtain ⟨hs, q⟩ := h
  cases x with
  | non =>
    cases rx
    cases y with
    | non => cases ry; exact PySem.EqNone.ne_none_none (fin_bl I q (by simp))
    | bl j => cases ry; exact PySem.EqNone.ne_none_bool (fin_bl I q (by simp))
    | int j => obtain ⟨t', rfl⟩ := ry; exact PySem.EqNone.ne_none_int (fin_bl I q (by simp))
    | str j => obtain ⟨t', rfl⟩ := ry; exact PySem.EqNone.ne_none_str (fin_bl I q (by simp))
    | _ => exact absurd (show false = true from hs) Bool.false_ne_true
  | bl i =>
    cases rx
    cases y with
    | non => cases ry; exact PySem.EqNone.ne_bool_none (fin_bl I q (by simp))
    | bl j => cases ry; exact ne_bool (fin_bl I q (congrArg not dec_bl))
    | str j => obtain ⟨t', rfl⟩ := ry; exact PySem.EqMixed.ne_bool_str (fin_bl I q (by simp))
    | _ => exact absurd (show false = true from hs) Bool.false_ne_true
  | int i =>
    obtain ⟨t, rfl⟩ := rx
    cases y with
    | non => cases ry; exact PySem.EqNone.ne_int_none (fin_bl I q (by simp))
    | int j => obtain ⟨t', rfl⟩ := ry; exact ne_int (fin_bl I q (congrArg not dec_int))
    | str j => obtain ⟨t', rfl⟩ := ry; exact PySem.EqMixed.ne_int_str (fin_bl I q (by simp))
    | _ => exact absurd (show false = true from hs) Bool.false_ne_true
  | str i =>
    obtain ⟨t, rfl⟩ := rx
    cases y with
    | non => cases ry; exact PySem.EqNone.ne_str_none (fin_bl I q (by simp))
    | bl j => cases ry; exact PySem.EqMixed.ne_str_bool (fin_bl I q (by simp))
    | int j => obtain ⟨t', rfl⟩ := ry; exact PySem.EqMixed.ne_str_int (fin_bl I q (by simp))
    | str j => obtain ⟨t', rfl⟩ := ry; exact ne_str (fin_bl I q (congrArg not dec_str))
    | _ => exact absurd (show false = true from hs) Bool.false_ne_true
  | byt i =>
    obtain ⟨t, rfl⟩ := rx
    cases y with
    | byt j => obtain ⟨t', rfl⟩ := ry; exact PySem.W.ne_bytes (fin_bl I q (congrArg not dec_byt))
    | _ => exact absurd (show false = true from hs) Bool.false_ne_true
  | _ => cases y <;> exact absurd (show false = true from hs) Bool.false_ne_true
theorem op_lt : OpR X (compareOp .Lt) (rI0 fun i j => .bl (decide (i < j))) := opB0 fun _ _ _ _ _ _ _ q => lt_int q
theorem op_gt : OpR X (compareOp .Gt) (rI0 fun i j => .bl (decide (j < i))) := opB0 fun _ _ _ _ _ _ _ q => gt_int q
theorem op_ge : OpR X (compareOp .GtE) (rI0 fun i j => .bl (decide (j ≤ i))) := opB0 fun _ _ _ _ _ _ _ q => ge_int q
theorem op_isN : OpR X (compareOp .Is) (fun x y H Q => y = .non ∧ Q (.bl (decide (x = .non))) H) := by
  intro pins s σ H x y v u Q I rx ry h
  obtain ⟨rfl, q⟩ := h
  cases ry
  refine is_none_gen (fin_bl I q ?_)
  cases x <;> first
    | (cases rx; rfl)
    | (obtain ⟨t, rfl⟩ := rx; rfl)
theorem op_notN : OpR X (compareOp .IsNot) (fun x y H Q => y = .non ∧ Q (.bl (!decide (x = .non))) H) := by
  intro pins s σ H x y v u Q I rx ry h
  obtain ⟨rfl, q⟩ := h
  cases ry
  refine isnot_none_gen (fin_bl I q ?_)
  cases x <;> first
    | (cases rx; rfl)
    | (obtain ⟨t, rfl⟩ := rx; rfl)
theorem OpR.or {f : Value → Value → Sem Value} {r r' : R2} (h : OpR X f r) (h' : OpR X f r') : OpR X f (fun x y H Q => r x y H Q ∨ r' x y H Q) := by
  intro pins s σ H x y v u Q I rx ry q
  rcases q with q | q
  · exact h pins s σ H x y v u Q I rx ry q
  · exact h' pins s σ H x y v u Q I rx ry q
theorem nomark (b : Expr) {op : CmpOp} (h : op ≠ .In := by decide) (h2 : op ≠ .NotIn := by decide) : behindInMarks op b = false := by
  have e1 : (op == CmpOp.In) = false := by cases op <;> first | rfl | exact absurd rfl h
  have e2 : (op == CmpOp.NotIn) = false := by cases op <;> first | rfl | exact absurd rfl h2
  cases b <;> simp [behindInMarks, e1, e2]
theorem pe_cmpR {op : CmpOp} {r : R2} (ho : OpR X (compareOp op) r) (ha : PE X a ta) (hb : PE X b tb) (hm : behindInMarks op b = false) : PE X (.Compare a [op] [b] pos) (tOp r ta tb) := by
  intro pins s σ H Q I h
  exact wpAny_Compare1 (binT ha hb I h fun v u s2 x y H2 I2 rx ry q => ho pins s2 σ H2 x y v u Q I2 rx ry q) hm
def tTest (t : TE) : TT := fun σ H Q => t σ H fun x H' => ∃ k, x = .bl k ∧ Q k H'
theorem pt_cmpR {op : CmpOp} {r : R2} (ho : OpR X (compareOp op) r) (ha : PE X a ta) (hb : PE X b tb) (hm : behindInMarks op b = false) : PT X (.Compare a [op] [b] pos) (tTest (tOp r ta tb)) := by
  intro pins s σ H Q I h
  refine wpAny_isTrue_Compare1 (thn (ha pins s σ H _ I h) fun v s1 ⟨x, H1, I1, r1, q1⟩ => thn (hb pins s1 σ H1 _ I1 q1) fun u s2 ⟨y, H2, I2, r2, q2⟩ =>
    thn (ho pins s2 σ H2 x y v u _ I2 r1 r2 q2) fun c s3 ⟨z, H3, I3, r3, k, e, q3⟩ => ?_) hm
  subst e
  cases r3
  exact wpAny_truthy_bool ⟨H3, I3, q3⟩
theorem line63 : (sizeLine : Nat) < 2 ^ 63 := by rw [sizeLine_eq]; decide
theorem op_add_str : OpR X (binaryOp .Add) (fun x y H Q => ∃ i j, x = .str i ∧ y = .str j ∧ i.length + j.length ≤ sizeLine ∧ Q (.str (i ++ j)) H) := by
  intro pins s σ H x y v u Q I rx ry h
  obtain ⟨i, j, rfl, rfl, hz, q⟩ := h
  obtain ⟨t, rfl⟩ := rx
  obtain ⟨t', rfl⟩ := ry
  exact add_str (fun t' tk => ⟨.str (i ++ j), H, I.tok _, ⟨_, rfl⟩, q⟩) hz
theorem vals1 {x : V} {us : List Value} (r : Vals [x] us) : ∃ u, us = [u] ∧ RelV x u := by
  cases r with
  | cons r1 r2 => cases r2; exact ⟨_, rfl, r1⟩
theorem vals2 {x y : V} {us : List Value} (r : Vals [x, y] us) : ∃ u w', us = [u, w'] ∧ RelV x u ∧ RelV y w' := by
  cases r with
  | cons r1 r2 =>
    cases r2 with
    | cons r3 r4 => cases r4; exact ⟨_, _, rfl, r1, r3⟩
theorem call_abs : CallR X (.builtin "abs") (fun xs H Q => ∃ i, xs = [.int i] ∧ Q (.int (if i < 0 then -i else i)) H) := by
  intro pins s σ H xs us Q I r h
  obtain ⟨i, rfl, q⟩ := h
  obtain ⟨u, rfl, t, rfl⟩ := vals1 r
  exact call_abs_int fun u tk => ⟨.int (if i < 0 then -i else i), H, I.tok _, ⟨_, rfl⟩, q⟩
theorem call_max2 (hc : X.calm = true) : CallR X (.builtin "max") (fun xs H Q => ∃ i j, xs = [.int i, .int j] ∧ Q (.int (if j > i then j else i)) H) := by
  intro pins s σ H xs us Q I r h
  obtain ⟨i, j, rfl, q⟩ := h
  obtain ⟨u, w', rfl, ⟨t, rfl⟩, ⟨t', rfl⟩⟩ := vals2 r
  refine max_two_ints (I.ok.hd hc) fun h' tk k => ⟨_, H, I.kept k, ?_, q⟩
  by_cases hj : j > i
  · rw [if_pos hj, if_pos hj]; exact ⟨_, rfl⟩
  · rw [if_neg hj, if_neg hj]; exact ⟨_, rfl⟩
theorem call_min2 (hc : X.calm = true) : CallR X (.builtin "min") (fun xs H Q => ∃ i j, xs = [.int i, .int j] ∧ Q (.int (if j < i then j else i)) H) := by
  intro pins s σ H xs us Q I r h
  obtain ⟨i, j, rfl, q⟩ := h
  obtain ⟨u, w', rfl, ⟨t, rfl⟩, ⟨t', rfl⟩⟩ := vals2 r
  refine min_two_ints (I.ok.hd hc) fun h' tk k => ⟨_, H, I.kept k, ?_, q⟩
  by_cases hj : j < i
  · rw [if_pos hj, if_pos hj]; exact ⟨_, rfl⟩
  · rw [if_neg hj, if_neg hj]; exact ⟨_, rfl⟩
theorem call_int1 : CallR X (.type "int") (fun xs H Q => (∃ i, xs = [.int i] ∧ Q (.int i) H) ∨ ∃ k, xs = [.bl k] ∧ Q (.int (if k then 1 else 0)) H) := by
  intro pins s σ H xs us Q I r h
  rcases h with ⟨i, rfl, q⟩ | ⟨k, rfl, q⟩
  · obtain ⟨u, rfl, t, rfl⟩ := vals1 r
    exact call_int_int ⟨.int i, H, I, ⟨_, rfl⟩, q⟩
  · obtain ⟨u, rfl, r1⟩ := vals1 r
    cases r1
    exact call_int_bool ⟨.int (if k then 1 else 0), H, I.tok _, ⟨_, rfl⟩, q⟩
end
end L2
namespace L2
open PySem PySem.Spec PyProof.Rows
structure ObjM (h : Heap) (x dx C : Addr) (mA : Str → Option Value) : Prop where
  obj : h.get? x = some (PySem.W.instObj C dx)
  ns : h.Ns1 dx mA
  ne : dx ≠ x
theorem lookIn_ns {h : Heap} {dx : Addr} {mA : Str → Option Value} (n : h.Ns1 dx mA) : ∃ od, h.get? dx = some od ∧ ∀ name, PySem.W.lookIn name od = some (mA name) := by
  obtain ⟨o, es, ep, ho, hd, hk, _, hm⟩ := n
  refine ⟨o, ho, fun name => ?_⟩
  have e := hm name
  unfold nsFind findBy at e
  rw [← Array.find?_toList] at e
  unfold PySem.W.lookIn
  rw [hd]
  dsimp only
  split
  · rename_i y q
    rw [q] at e
    exact congrArg some e
  · rename_i q
    rw [q] at e
    have a : es.toList.any (·.refKey) = false := by
      rw [List.any_eq_false]
      intro y hy
      obtain ⟨z, t, hkey⟩ := hk y (Array.mem_toList_iff.mp hy)
      simp [DictEntry.refKey, hkey]
    have a' : ¬ es.toList.any (·.refKey) = true := by rw [a]; exact Bool.false_ne_true
    rw [if_neg a']
    exact congrArg some e
theorem ObjM.look {h : Heap} {x dx C : Addr} {mA : Str → Option Value} (I : ObjM h x dx C mA) : ∃ od, PySem.W.InstAt h x (PySem.W.instObj C dx) C (some od) ∧ ∀ name, PySem.W.lookIn name od = some (mA name) :=
  let ⟨od, ho, hl⟩ := lookIn_ns I.ns
  ⟨od, ⟨I.obj, rfl, rfl, ho⟩, hl⟩
section
variable {prog : Program} {w : World} {A : Around} {E : Value → Shared → Prop} {s : Shared} {K : PySem.W.Frag} {x dx C f : Addr} {mA : Str → Option Value} {name : Str} {v : Value}
end
section
variable {P : Program} {w : World} {H H' : Hp} {h h' : Heap} {a C dx : Addr} {fs fs' : List (Str × V)}
theorem ins_get (hok : HOk P w H h) (e : H a = some (.ins C dx fs)) : ∃ mA, ObjM h a dx C mA ∧ (∀ f, RelO (fs.lookup f) (mA f)) ∧ PySem.Within mA (fs.map (·.1)) ∧ fs.length ≤ 1000 ∧ H dx = some (.own a) := by
  obtain ⟨d, z, ne, ob, mA, n, r, q⟩ := (show ObjOk P w H h a (.ins C dx fs) from hok a _ e)
  exact ⟨mA, ⟨ob, n, ne⟩, r, q, z, d⟩
end
structure Cls (K : PySem.W.Frag) (C : Addr) : Prop where
  pg : PySem.W.plainGet K C Str.empty = true
  hd : PySem.W.hasDictIn K C = true
  po : PySem.W.plainOver K C = true
  sa : PySem.W.findIn K (.ref C) "__setattr__" = some (some (.builtin "object.__setattr__"))
theorem Cls.get {K : PySem.W.Frag} {C : Addr} (c : Cls K C) (f : Str) : PySem.W.plainGet K C f = true := c.pg
section
variable {X : Cx} {pins : List (Addr × Obj)} {σ : St} {H : Hp} {s : Shared} {a C dx : Addr} {fs : List (Str × V)} {f : Str} {v : V} {A : Around} {E : Value → Shared → Prop}
end
section
variable {X : Cx} {o e value : Expr} {f : Str} {pos pos' tpos : Pos} {ta tv : TE}
end
section
variable {X : Cx} {pins : List (Addr × Obj)} {σ : St} {H : Hp} {s : Shared} {A : Around} {E : Value → Shared → Prop} {Q : Value → Shared → Prop} {c : Value} {b : Bool}
inductive TyOf (K : PySem.W.Frag) (H : Hp) : V → Value → Prop where
  | non : TyOf K H .non (.type "NoneType")
  | bl (x : Bool) : TyOf K H (.bl x) (.type "bool")
  | int (i : Int) : TyOf K H (.int i) (.type "int")
  | str (x : Str) : TyOf K H (.str x) (.type "str")
  | flt (x : UInt64) : TyOf K H (.flt x) (.type "float")
  | lst {a : Addr} {xs : List V} (e : H a = some (.lst xs)) : TyOf K H (.ref a) (.type "list")
  | frz {a : Addr} {o : Obj} {xs : List V} (e : H a = some (.frz o (.lst xs))) : TyOf K H (.ref a) (.type "list")
  | tup {a : Addr} {xs : List V} (e : H a = some (.tup xs)) : TyOf K H (.ref a) (.type "tuple")
  | dK {a : Addr} {kvs : List (Key × V)} (e : H a = some (.dK kvs)) : TyOf K H (.ref a) (.type "dict")
  | dT {a : Addr} {kvs : List (List Key × V)} (e : H a = some (.dT kvs)) : TyOf K H (.ref a) (.type "dict")
  | ins {a C dx : Addr} {fs : List (Str × V)} (e : H a = some (.ins C dx fs)) (cl : Cls K C) (ha : PySem.W.findIn K (.ref C) "__class__" = some (some (.builtin "object.__class__")))
      (hn : PySem.W.specialIn K (.builtin "object.__class__") "__get__" = some (some (.builtin "getset_descriptor.__get__"))) (htk : PySem.W.takesIn K (.builtin "object.__class__") = some true)
      (hm : PySem.W.mroIn K C (.type "object") = some true) : TyOf K H (.ref a) (.ref C)
theorem isinst_ok {x : V} {u t : Value} (I : Inv X pins σ H s) (rx : RelV x u) (ty : TyOf X.K H x t) (e : PySem.W.kitOne X.K t c = some b) (h : ∀ tk, Q (.bool b) { s with toks := tk }) :
    wpAny (model X.prog X.w) A (call (.builtin "isinstance") [u, c]) Q E s := by
  cases ty with
  | non => cases (show u = Value.none from rx); exact PySem.W.kia_one PySem.W.kitx_none I.kIn True.intro e (fun z => nomatch z) h
  | bl y => cases (show u = Value.bool y from rx); exact PySem.W.kia_one PySem.W.kitx_bool I.kIn True.intro e (fun z => nomatch z) h
  | int i => obtain ⟨t, q⟩ := (show ∃ t, u = Value.int i t from rx); cases q; exact PySem.W.kia_one PySem.W.kitx_int I.kIn True.intro e (fun z => nomatch z) h
  | str y => obtain ⟨t, q⟩ := (show ∃ t, u = Value.str y t from rx); cases q; exact PySem.W.kia_one PySem.W.kitx_str I.kIn True.intro e (fun z => nomatch z) h
  | flt y => obtain ⟨t, q⟩ := (show ∃ t, u = Value.float y t from rx); cases q; exact PySem.W.kia_one PySem.W.kitx_float I.kIn True.intro e (fun z => nomatch z) h
  | @lst a xs ea =>
    cases (show u = Value.ref a from rx)
    obtain ⟨_, _, n, _, h1⟩ := (show ObjOk X.prog X.w H s.heap a (.lst xs) from I.hok a _ ea)
    exact PySem.W.kia_one PySem.W.kitx_list I.kIn ⟨_, h1, rfl⟩ e (fun z => nomatch z) h
  | @frz a ob xs ea =>
    cases (show u = Value.ref a from rx)
    obtain ⟨_, _, _, n, _, h1⟩ := (show ObjOk X.prog X.w H s.heap a (.frz ob (.lst xs)) from I.hok a _ ea)
    exact PySem.W.kia_one PySem.W.kitx_list I.kIn ⟨_, h1, rfl⟩ e (fun z => nomatch z) h
  | @tup a xs ea =>
    cases (show u = Value.ref a from rx)
    obtain ⟨_, _, _, p⟩ := (show ObjOk X.prog X.w H s.heap a (.tup xs) from I.hok a _ ea)
    obtain ⟨o, h1, h2, _⟩ := p
    exact PySem.W.kia_one PySem.W.kitx_tuple I.kIn ⟨o, h1, h2⟩ e (fun z => nomatch z) h
  | @dK a kvs ea =>
    cases (show u = Value.ref a from rx)
    obtain ⟨_, _, vs, _, p⟩ := (show ObjOk X.prog X.w H s.heap a (.dK kvs) from I.hok a _ ea)
    obtain ⟨o, es, ep, h1, h2, _⟩ := p
    exact PySem.W.kia_one PySem.W.kitx_dict I.kIn ⟨o, h1, h2.1⟩ e (fun z => nomatch z) h
  | @dT a kvs ea =>
    cases (show u = Value.ref a from rx)
    obtain ⟨_, _, xs, _, o, es, ep, h1, h2, _⟩ := (show ObjOk X.prog X.w H s.heap a (.dT kvs) from I.hok a _ ea)
    exact PySem.W.kia_one PySem.W.kitx_dict I.kIn ⟨o, h1, h2.1⟩ e (fun z => nomatch z) h
  | @ins a C dx fs ea cl ha hn htk hm =>
    cases (show u = Value.ref a from rx)
    obtain ⟨mA, O, _⟩ := ins_get I.hok ea
    obtain ⟨od, J, _⟩ := O.look
    exact PySem.W.kia_one (PySem.W.kitx_own (cl.get _) cl.hd ha hn htk hm) I.kIn J e (fun z => nomatch z) h
end
end L2
namespace L2
open PySem PySem.Spec PyProof.Rows
structure Room (k : Nat) (A : Around) : Prop where
  hd : A.handled = none
  dp : A.depth + 3 * k + 5 < recursionLimit
  un : A.units + 16 * k + 200 < cLine
theorem Room.mono {j k : Nat} {A : Around} (r : Room k A) (h : j ≤ k) : Room j A := ⟨r.hd, by have := r.dp; omega, by have := r.un; omega⟩
theorem Room.deeper {k : Nat} {A : Around} (r : Room (k + 1) A) (env : Env) : Room k (A.deeper env) :=
  ⟨r.hd, by have := r.dp; show A.depth + 1 + 3 * k + 5 < _; omega, by have := r.un; show A.units + 3 + 16 * k + 200 < _; omega⟩
theorem Room.in1 {k : Nat} {A : Around} (r : Room (k + 1) A) : Room k A.in1 :=
  ⟨r.hd, by have := r.dp; show A.depth + 3 * k + 5 < _; omega, by have := r.un; show A.units + 1 + 16 * k + 200 < _; omega⟩
theorem Room.depth {k : Nat} {A : Around} (r : Room k A) : A.depth < recursionLimit := by have := r.dp; omega
theorem Room.units {k : Nat} {A : Around} (r : Room k A) : A.units + 64 < cLine := by have := r.un; omega
def tNil : TA := fun _ H Q => Q [] H
def tCons (ta : TE) (tr : TA) : TA := fun σ H Q => ta σ H fun x H1 => tr σ H1 fun xs H2 => Q (x :: xs) H2
section
variable {X : Cx} {e : Expr} {es : List Expr} {te : TE} {t : TA} {pos : Pos}
theorem pa_nil : PA X [] tNil := fun _ _ _ _ H Q I h => Calls.spliced_nil ⟨[], H, I, .nil, h⟩
theorem pa_cons (ha : PE X e te) (hr : PA X es t) (hs : starEach (e :: es) X.env = (false, eval e X.env) :: starEach es X.env := by rfl) : PA X (e :: es) (tCons te t) := by
  intro pos pins s σ H Q I h
  rw [hs]
  show wpAny _ _ (spliced ((false, eval e X.env) :: backTo pos (starEach es X.env))) _ _ s
  refine Calls.spliced_cons (thn (ha pins s σ H _ I h) fun u s1 ⟨x, H1, I1, r1, q1⟩ => ?_)
  exact thn (hr pos pins s1 σ H1 _ I1 q1) fun us s2 ⟨xs, H2, I2, r2, q2⟩ => ⟨x :: xs, H2, I2, .cons r1 r2, q2⟩
def tTup (t : TA) : TE := fun σ H Q => t σ H fun xs H1 => xs.length ≤ sizeLine ∧ ∀ p, H1 p = none → Q (.ref p) (upd H1 p (.tup xs))
def tLst (t : TA) : TE := fun σ H Q => t σ H fun xs H1 => xs.length ≤ sizeLine ∧ ∀ p, H1 p = none → Q (.ref p) (upd H1 p (.lst xs))
theorem pe_tup {x1} (h : PA X es t) : PE X (.Tuple es x1 pos) (tTup t) := by
  intro pins s σ H Q I hq
  refine wpAny_Tuple_spliced (thn (h pos pins s σ H _ I hq) fun us s1 ⟨xs, H1, I1, r, z, q⟩ => ⟨by rw [← r.length]; exact z, ?_⟩)
  have hf : H1 s1.heap.objs.size = none := I1.hok.fresh (Nat.le_refl _)
  refine ⟨.ref s1.heap.objs.size, upd H1 s1.heap.objs.size (.tup xs), I1.laid (t' := s1.toks) (fun b u e => Heap.get?_push_of_some _ e) (Nat.le_refl _) ?_, rfl, q _ hf⟩
  exact ⟨z, us, r, ⟨_, Heap.get?_push_size _ rfl, rfl, _, rfl⟩⟩
theorem pe_lst (h : PA X es t) : PE X (.List es pos) (tLst t) := by
  intro pins s σ H Q I hq
  refine wpAny_List_spliced (thn (h pos pins s σ H _ I hq) fun us s1 ⟨xs, H1, I1, r, z, q⟩ => ⟨by rw [← r.length]; exact z, ?_⟩)
  have hf : H1 s1.heap.objs.size = none := I1.hok.fresh (Nat.le_refl _)
  refine ⟨.ref s1.heap.objs.size, upd H1 s1.heap.objs.size (.lst xs), I1.laid (t' := s1.toks) (fun b u e => Heap.get?_push_of_some _ e) (Nat.le_refl _) ?_, rfl, q _ hf⟩
  exact ⟨z, us, 0, r, Heap.get?_push_size _ rfl⟩
end
abbrev Sp := List V → Hp → VK → XK → Prop
abbrev CXT := List Env → Hp → Shared → XK → Value → Shared → Prop
structure Env0 (P : Program) (w : World) (K : PySem.W.Frag) (mg : Str → Option Value) (base : Heap) (A : Around) (outer : List Env) (s : Shared) (H : Hp) : Prop where
  frames : A.frames = some outer
  mod : Mod K mg base
  bs : ∀ b o, base.get? b = some o → s.heap.get? b = some o ∧ H b = none
  bsz : base.objs.size ≤ s.heap.objs.size
  funs : s.heap.FunFrames base outer
  frf : ∀ b ∈ frs outer, H b = none
  hok : HOk P w H s.heap
  bare : AllBare s.gens
def CE (outer : List Env) (P : Program) (w : World) (H : Hp) (s : Shared) (Q : VK) (u : Value) (s' : Shared) : Prop :=
  ∃ v H', s'.os = s.os ∧ AllBare s'.gens ∧ Un (frs outer) [] H H' s.heap s'.heap ∧ HOk P w H' s'.heap ∧ RelV v u ∧ Q v H'
def CR (CX : CXT) (outer : List Env) (P : Program) (w : World) (H : Hp) (s : Shared) (Q : VK) (E : XK) (r : Result) (s' : Shared) : Prop :=
  match r with
  | .ok (.ret u) => CE outer P w H s Q u s'
  | .ok _ => False
  | .error e => CX outer H s E e s'
structure FnOk (P : Program) (w : World) (K : PySem.W.Frag) (mg : Str → Option Value) (base : Heap) (CX : CXT) (k : Nat) (f : Addr) (fd : FuncData) (ps : List Str) (sp : Sp) : Prop where
  len : ∀ vs H Q E, sp vs H Q E → vs.length = ps.length
  run : ∀ (A : Around) (outer : List Env) (s : Shared) (H : Hp) (args : Args) (us : List Value) (vs : List V) (Q : VK) (E : XK), Room k A → Env0 P w K mg base A outer s H → BindsTo s fd args (ps.zip us) → Vals vs us → sp vs H Q E →
    codeAny (model P w) A (.call (.ref f) args) (CR CX outer P w H s Q E) s
theorem FnOk.mono {P : Program} {w : World} {K : PySem.W.Frag} {mg : Str → Option Value} {base : Heap} {CX : CXT} {j k : Nat} {f : Addr} {fd : FuncData} {ps : List Str} {sp : Sp} (F : FnOk P w K mg base CX j f fd ps sp) (h : j ≤ k) :
    FnOk P w K mg base CX k f fd ps sp := ⟨F.len, fun A outer s H args us vs Q E hr => F.run A outer s H args us vs Q E (hr.mono h)⟩
theorem FnOk.imp {P : Program} {w : World} {K : PySem.W.Frag} {mg : Str → Option Value} {base : Heap} {CX : CXT} {k : Nat} {f : Addr} {fd : FuncData} {ps : List Str} {sp sp' : Sp} (F : FnOk P w K mg base CX k f fd ps sp)
    (h : ∀ vs H Q E, sp' vs H Q E → sp vs H Q E) : FnOk P w K mg base CX k f fd ps sp' :=
  ⟨fun vs H Q E q => F.len vs H Q E (h _ _ _ _ q), fun A outer s H args us vs Q E hr he hb hv hs => F.run A outer s H args us vs Q E hr he hb hv (h _ _ _ _ hs)⟩
theorem Env0.in1 {P : Program} {w : World} {K : PySem.W.Frag} {mg : Str → Option Value} {base : Heap} {A : Around} {outer : List Env} {s : Shared} {H : Hp} (e : Env0 P w K mg base A outer s H) :
    Env0 P w K mg base A.in1 outer s H := ⟨e.frames, e.mod, e.bs, e.bsz, e.funs, e.frf, e.hok, e.bare⟩
section
variable {X : Cx} {pins : List (Addr × Obj)} {σ : St} {H : Hp} {s s' : Shared}
theorem Inv.env0 (I : Inv X pins σ H s) : Env0 X.prog X.w X.K X.mg X.base X.A X.stack s H :=
  ⟨I.ok.frames, I.ok.mod, I.bs, Nat.le_trans I.ok.bsz I.sz, I.stack, I.stkFree, I.hok, I.bare⟩
theorem Inv.after {Q : VK} {u : Value} (I : Inv X pins σ H s) (h : CE X.stack X.prog X.w H s Q u s') : EP X pins σ Q u s' := by
  obtain ⟨v, H', os, bare, un, hok, r, q⟩ := h
  obtain ⟨hh, g, d, t, os'⟩ := s'
  obtain rfl : os' = s.os := os
  exact ⟨v, H', I.call (h' := hh) (g' := g) (d' := d) (t' := t) (ch := []) un hok bare (fun b z => absurd z (by simp)), r, q⟩
end
def tCall (sp : Sp) (dvs : List V) (E : XK) (t : TA) : TE := fun σ H Q => t σ H fun vs H1 => sp (vs ++ dvs) H1 Q E
def Binds (K : PySem.W.Frag) (fd : FuncData) (ps : List Str) (ds : List Value) : Prop :=
  ∀ (s : Shared) (us : List Value), K.In s.heap → (us ++ ds).length = ps.length → BindsTo s fd ⟨us, []⟩ (ps.zip (us ++ ds))
theorem Binds.all {K : PySem.W.Frag} {fd : FuncData} {ps : List Str} (h : ∀ us : List Value, us.length = ps.length → bindArgs fd ⟨us, []⟩ = pure (ps.zip us)) : Binds K fd ps [] := fun s us _ hl => by
  rw [List.append_nil] at hl ⊢
  exact .of_eq (h us hl)
def Passes (CX : CXT) (X : Cx) (E : XK) : Prop := ∀ (pins : List (Addr × Obj)) (σ : St) (H : Hp) (s : Shared) (e : Value) (s' : Shared), Inv X pins σ H s → CX X.stack H s E e s' → X.xe e s'
section
variable {X : Cx} {CX : CXT} {k : Nat} {f C : Addr} {fd : FuncData} {ps : List Str} {sp : Sp} {dvs : List V} {ds : List Value} {E : XK} {x m : Str} {p pos apos : Pos} {e o : Expr} {es : List Expr} {ta : TE} {t : TA}
theorem run_fn {pins : List (Addr × Obj)} {σ : St} {H : Hp} {s : Shared} {Q : VK} {us : List Value} {vs : List V} (F : FnOk X.prog X.w X.K X.mg X.base CX k f fd ps sp) (hr : Room k X.A) (hb : Binds X.K fd ps ds) (hd : Vals dvs ds) (hx : Passes CX X E)
    (I : Inv X pins σ H s) (r : Vals vs us) (h : sp (vs ++ dvs) H Q E) : wpAny (model X.prog X.w) X.A (call (.ref f) us) (EP X pins σ Q) X.xe s := by
  have r2 : Vals (vs ++ dvs) (us ++ ds) := r.append hd
  have hl : (us ++ ds).length = ps.length := by rw [← r2.length]; exact F.len _ _ _ _ h
  refine wpAny_call (codeAny_mono (F.run X.A X.stack s H ⟨us, []⟩ (us ++ ds) (vs ++ dvs) Q E hr I.env0 (hb s us I.kIn hl) r2 h) fun r s' hq => ?_)
  cases r with
  | error e => exact hx pins σ H s e s' I hq
  | ok fl =>
    cases fl with
    | ret u => exact I.after hq
    | next => exact False.elim hq
    | brk => exact False.elim hq
    | cont => exact False.elim hq
theorem pe_call (F : FnOk X.prog X.w X.K X.mg X.base CX k f fd ps sp) (hr : Room k X.A) (hg : Gl X x) (hm : X.mg x = some (.ref f)) (hk : PySem.W.keepIn X.K (.ref f) = true) (hb : Binds X.K fd ps ds) (hd : Vals dvs ds) (hx : Passes CX X E)
    (ha : PA X (e :: es) t) (hdb : (x == ("__debug__" : Str)) = false := by decide) (he : starEach (e :: es) X.env = (false, eval e X.env) :: starEach es X.env := by rfl) (hpl : (backTo pos (starEach es X.env)).any (·.1) = false := by rfl) :
    PE X (.Call (.Name x p) (e :: es) [] pos) (tCall sp dvs E t) := by
  intro pins s σ H Q I h
  refine wpAny_Call_Name_kw (ld_glob I hg hm ?_ hdb)
  refine PySem.W.callWith_K (h₀ := X.base) I.ok.mod.kin hk (thn (ha pos pins s σ H _ I h) fun us s1 ⟨vs, H1, I1, r, q⟩ => ⟨I1.kIn, ?_⟩) he hpl
  exact run_fn F hr hb hd hx I1 r q
end
section
variable {X : Cx} {CX : CXT} {k : Nat} {f C : Addr} {fd : FuncData} {ps ks : List Str} {sp : Sp} {E : XK} {x m : Str} {p pos apos kpos : Pos} {e o : Expr} {es : List Expr} {kws : List Keyword} {te ta : TE} {t tk : TA} {nm : Option Str}
variable {g : List Value → List Value → List Value} {gV : List V → List V → List V}
end
structure FnScope (N P : List Str) (sc : Scope) : Prop where
  kind : sc.kind = .function
  co : sc.isCoroutine = false
  gen : sc.isGenerator = false
  nd : N.Nodup
  pre : N.take P.length = P
  par : ∀ x ∈ P, sc.names.lookup x = some .local ∨ sc.names.lookup x = some .cell
  nofree : ∀ y ∈ sc.names, y.2 ≠ .free
theorem bindL_out {kindOf : Str → Option NameKind} {x : Str} : ∀ {binds : List (Str × Value)} {m : Str → Option Value}, (∀ v, (x, v) ∉ binds) → bindL kindOf binds m x = m x
  | [], _, _ => rfl
  | (n, v) :: r, m, h => by
    unfold bindL
    rw [bindL_out fun w hw => h w (List.mem_cons_of_mem _ hw)]
    split
    · have : x ≠ n := by rintro rfl; exact h v List.mem_cons_self
      simp [this]
    · rfl
theorem bindC_out {kindOf : Str → Option NameKind} {x : Str} : ∀ {binds : List (Str × Value)} {m : Str → Option Value}, (∀ v, (x, v) ∉ binds) → bindC kindOf binds m x = m x
  | [], _, _ => rfl
  | (n, v) :: r, m, h => by
    unfold bindC
    rw [bindC_out fun w hw => h w (List.mem_cons_of_mem _ hw)]
    split
    · rfl
    · have : x ≠ n := by rintro rfl; exact h v List.mem_cons_self
      simp [this]
theorem bindL_get {kindOf : Str → Option NameKind} {x : Str} {v : Value} : ∀ {P : List Str} {vs : List Value} {i : Nat} {m : Str → Option Value}, P.Nodup → P[i]? = some x → vs[i]? = some v → kindOf x = some .local →
    bindL kindOf (P.zip vs) m x = some v
  | [], _, _, _, _, h, _, _ => by simp at h
  | _ :: _, [], _, _, _, _, h, _ => by simp at h
  | p :: P, w :: vs, 0, m, nd, h1, h2, hk => by
    simp at h1 h2; subst h1; subst h2
    show bindL kindOf ((p, w) :: P.zip vs) m p = _
    unfold bindL
    rw [bindL_out fun v hv => (List.nodup_cons.mp nd).1 (List.of_mem_zip hv).1, if_pos hk]
    simp
  | p :: P, w :: vs, i + 1, m, nd, h1, h2, hk => by
    show bindL kindOf ((p, w) :: P.zip vs) m x = _
    unfold bindL
    exact bindL_get (i := i) (List.nodup_cons.mp nd).2 (by simpa using h1) (by simpa using h2) hk
theorem bindC_get {kindOf : Str → Option NameKind} {x : Str} {v : Value} : ∀ {P : List Str} {vs : List Value} {i : Nat} {m : Str → Option Value}, P.Nodup → P[i]? = some x → vs[i]? = some v → kindOf x ≠ some .local →
    bindC kindOf (P.zip vs) m x = some v
  | [], _, _, _, _, h, _, _ => by simp at h
  | _ :: _, [], _, _, _, _, h, _ => by simp at h
  | p :: P, w :: vs, 0, m, nd, h1, h2, hk => by
    simp at h1 h2; subst h1; subst h2
    show bindC kindOf ((p, w) :: P.zip vs) m p = _
    unfold bindC
    rw [bindC_out fun v hv => (List.nodup_cons.mp nd).1 (List.of_mem_zip hv).1, if_neg hk]
    simp
  | p :: P, w :: vs, i + 1, m, nd, h1, h2, hk => by
    show bindC kindOf ((p, w) :: P.zip vs) m x = _
    unfold bindC
    exact bindC_get (i := i) (List.nodup_cons.mp nd).2 (by simpa using h1) (by simpa using h2) hk
def start (N : List Str) (vs : List V) : St := vs.map some ++ List.replicate (N.length - vs.length) none
def cxOf (CX : CXT) (P : Program) (w : World) (K : PySem.W.Frag) (mg : Str → Option Value) (base : Heap) (N : List Str) (qual : Str) (scope : Scope) (f : Addr) (cd : Value) (A : Around) (outer : List Env) (s : Shared) (H : Hp) (E : XK) : Cx where
  prog := P
  w := w
  K := K
  mg := mg
  base := base
  A := A.deeper (envOfC qual scope s.heap.objs.size f cd)
  N := N
  s₀ := s
  H₀ := H
  env := envOfC qual scope s.heap.objs.size f cd
  outer := outer
  stack := envOfC qual scope s.heap.objs.size f cd :: outer
  ex := []
  calm := true
  fn := fun _ => true
  pn := []
  xe := fun e s' => wpAny (model P w) (A.deeper (envOfC qual scope s.heap.objs.size f cd)) (leaving (envOfC qual scope s.heap.objs.size f cd) e) (fun _ s'' => CX outer H s E e s'') (fun e' s'' => CX outer H s E e' s'') s'
theorem cell_has {sc : Scope} {n : Nat} {x : Str} (h : sc.names.lookup x = some .cell) : ∃ c, (cellsFrom n sc.names []).lookup x = some c := by
  have q := PySem.W.cellsFrom_some sc.names n [] (.inl h)
  exact Option.isSome_iff_exists.mp q
theorem inv_start {CX : CXT} {P : Program} {w : World} {K : PySem.W.Frag} {mg : Str → Option Value} {base : Heap} {N ps : List Str} {qual : Str} {scope : Scope} {f : Addr} {cd : Value} {A : Around} {outer : List Env} {s s1 : Shared} {H : Hp} {E : XK} {us : List Value} {vs : List V}
    (S : FnScope N ps scope) (hd : A.handled = none) (e0 : Env0 P w K mg base A outer s H) (hl : vs.length = ps.length) (r : Vals vs us)
    (x : InCallC s s.heap.objs.size (bindL (envOfC qual scope s.heap.objs.size f cd).kindOf (ps.zip us) fun _ => none) (cellsFrom (s.heap.objs.size + 1) scope.names []) (bindC (envOfC qual scope s.heap.objs.size f cd).kindOf (ps.zip us) fun _ => none) s1) :
    Inv (cxOf CX P w K mg base N qual scope f cd A outer s H E) [] (start N vs) H s1 := by
  have hpl : ps.length ≤ N.length := by have := congrArg List.length S.pre; rw [List.length_take] at this; omega
  obtain ⟨h1, tk, rfl, hk⟩ := x.done
  have noA : ∀ b : Addr, b ∉ (cxOf CX P w K mg base N qual scope f cd A outer s H E).ex := fun b z => absurd (show b ∈ ([] : List Addr) from z) (by simp)
  refine ⟨⟨e0.mod, S.kind, rfl, rfl, Nat.le_refl _, fun y z c h1 h2 => ?_, fun y hy => ?_, fun y c _ h => ?_, fun _ => hd, Around.frames_deeper e0.frames, .inr ⟨rfl, rfl⟩, fun b z => absurd z (noA b), e0.bs, e0.bsz, fun b _ _ => noA b, fun b z => absurd z (noA b), e0.funs, e0.frf⟩,
    rfl, e0.bare, Un.kept hk, ⟨_, x.toInCall.ns, fun i y v h1 h2 h3 => ?_⟩, fun y c h => ⟨_, x.cell y c h⟩, e0.hok.fresh (Nat.le_refl _), fun y c h => ?_, fun p hp => absurd (show p ∈ ([] : List (Addr × Obj)) from hp) (by simp), e0.hok.kept hk, ?_⟩
  · exact name_of_addr x.apart (PySem.mem_of_lookup h1) (PySem.mem_of_lookup h2)
  · have hy : scope.names.lookup y = some .cell ∨ scope.names.lookup y = some .free := hy
    rcases hy with hy | hy
    · exact cell_has hy
    · exact absurd rfl (S.nofree _ (PySem.mem_of_lookup hy))
  · exact Nat.le_of_lt (x.above y c (PySem.mem_of_lookup h))
  · have hi : i < vs.length := by
      unfold start at h2
      by_cases hi : i < vs.length
      · exact hi
      · rw [List.getElem?_append_right (by simpa using hi)] at h2
        rw [List.getElem?_replicate] at h2
        split at h2 <;> cases h2
    have ha : vs[i]? = some v := by
      unfold start at h2
      rw [List.getElem?_append_left (by simpa using hi), List.getElem?_map] at h2
      cases e : vs[i]? with
      | none => rw [e] at h2; cases h2
      | some a => rw [e] at h2; cases h2; rfl
    obtain ⟨u, hu, rv⟩ := r.get ha
    have hp : ps[i]? = some y := by
      rw [← S.pre, List.getElem?_take_of_lt (by omega)]; exact h1
    have ndP : ps.Nodup := by rw [← S.pre]; exact S.nd.sublist (List.take_sublist _ _)
    refine ⟨u, rv, ?_⟩
    rcases S.par y (List.mem_of_getElem? hp) with k | k
    · exact .inl ⟨k, bindL_get ndP hp hu k⟩
    · obtain ⟨c, e⟩ := cell_has (n := s.heap.objs.size + 1) k
      refine .inr ⟨.inl k, c, e, ?_⟩
      have q := x.cell y c e
      rw [bindC_get ndP hp hu (by show scope.names.lookup y ≠ _; rw [k]; decide)] at q
      exact q
  · exact e0.hok.fresh (Nat.le_of_lt (x.above y c (PySem.mem_of_lookup h)))
  · unfold start
    show _ = N.length
    rw [List.length_append, List.length_map, List.length_replicate]
    omega
theorem fn_of {CX : CXT} {P : Program} {w : World} {K : PySem.W.Frag} {mg : Str → Option Value} {base : Heap} {k : Nat} {f : Addr} {name qual : Str} {params : Arguments} {body : List Stmt} {scope : Scope} {dV kV doc pm cdv ct oc : Value} {an od : Option Addr}
    {osl : Array (Option Value)} {N ps : List Str} {sp : Sp} (lk : K.lookup f = some ⟨oc, od, .func (PySem.W.fnOf name qual params body scope dV kV doc pm an cdv ct), osl⟩) (hcd : PySem.W.codeIn K cdv qual = true) (S : FnScope N ps scope)
    (len : ∀ vs H Q E, sp vs H Q E → vs.length = ps.length)
    (hbody : ∀ (A : Around) (outer : List Env) (s : Shared) (H : Hp) (vs : List V) (Q : VK) (E : XK), Room k (A.deeper (envOfC qual scope s.heap.objs.size f cdv)) → sp vs H Q E →
      ∃ t, PSs (cxOf CX P w K mg base N qual scope f cdv A outer s H E) body t ∧ t { nx := fun _ H' => Q .non H', rt := Q } (start N vs) H) :
    FnOk P w K mg base CX (k + 1) f (PySem.W.fnOf name qual params body scope dV kV doc pm an cdv ct) ps sp := by
  refine ⟨len, fun A outer s H args us vs Q E hr e0 hb r hsp => ?_⟩
  have hl := len _ _ _ _ hsp
  have KX : K.In s.heap := e0.mod.kin.keeps fun b o e => (e0.bs b o e).1
  have lim : s.heap.NoLimit := e0.mod.nolimit.keeps fun b o e => (e0.bs b o e).1
  have hkind : ∀ y ∈ ps.zip us, scope.names.lookup y.1 = some .local ∨ (scope.names.lookup y.1 = some .cell ∧ ((cellsFrom (s.heap.objs.size + 1) scope.names []).lookup y.1).isSome = true) := fun ⟨n, v⟩ hy => by
    rcases S.par n (List.of_mem_zip hy).1 with q | q
    · exact .inl q
    · exact .inr ⟨q, PySem.W.cellsFrom_some _ _ _ (.inl q)⟩
  refine codeAny_call_function hr.depth (KX _ _ lk) rfl S.co S.gen rfl (PySem.W.codeRec_of KX hcd) (hb _ _ _ _ ?_)
  refine wpAny_newFunctionEnv_cells S.kind hkind fun env he s1 x => ?_
  subst he
  refine ⟨lim.keeps x.toInCall.keep, codeAny_func ?_⟩
  obtain ⟨t, ht, hq⟩ := hbody A outer s H vs Q E (hr.deeper _) hsp
  have I : Inv (cxOf CX P w K mg base N qual scope f cdv A outer s H E) [] (start N vs) H s1 := inv_start S hr.hd e0 hl r x
  refine wpAny_mono (ht [] s1 (start N vs) H _ I hq) (fun fl s' hs => ?_) fun e s' hs => hs
  have fin : ∀ {σ' : St} {H' : Hp} {v : V} {u : Value}, Inv (cxOf CX P w K mg base N qual scope f cdv A outer s H E) [] σ' H' s' → RelV v u → Q v H' → CE outer P w H s Q u s' :=
    fun {σ' H' v u} J rv q => ⟨v, H', J.os, J.bare, J.base, J.hok, rv, q⟩
  cases fl with
  | ret u =>
    obtain ⟨v, σ', H', J, rv, q⟩ := hs
    exact fin J rv q
  | next =>
    obtain ⟨σ', H', J, q⟩ := hs
    exact fin (v := V.non) (u := Value.none) J rfl q
  | brk =>
    obtain ⟨_, _, _, q⟩ := hs
    exact False.elim q
  | cont =>
    obtain ⟨_, _, _, q⟩ := hs
    exact False.elim q
end L2
namespace L2
open PySem PySem.Spec PyProof.Rows
section
variable {X : Cx} {x : Str} {p pos : Pos} {e : Expr} {es : List Expr} {t : TA} {id T : String} {r : List V → Hp → VK → Prop}
def tCB (r : List V → Hp → VK → Prop) (t : TA) : TE := fun σ H Q => t σ H fun vs H1 => r vs H1 Q
theorem pe_callB (hc : CallR X (.builtin id) r) (hg : Gl X x) (hm : X.mg x = none) (hv : bootBuiltins x = some (.builtin id)) (ha : PA X (e :: es) t) (hn : x ≠ "__name__" := by decide) (hdb : (x == ("__debug__" : Str)) = false := by decide)
    (he : starEach (e :: es) X.env = (false, eval e X.env) :: starEach es X.env := by rfl) (hpl : (backTo pos (starEach es X.env)).any (·.1) = false := by rfl) : PE X (.Call (.Name x p) (e :: es) [] pos) (tCB r t) := by
  intro pins s σ H Q I h
  refine wpAny_Call_Name_kw (ld_blt I hg hm hv ?_ hn hdb)
  exact PyProof.Rows.callWith_builtin1 (thn (ha pos pins s σ H _ I h) fun us s1 ⟨vs, H1, I1, r1, q1⟩ => hc pins s1 σ H1 vs us Q I1 r1 q1) he hpl
theorem pe_callTy (hc : CallR X (.type T) r) (hg : Gl X x) (hm : X.mg x = none) (hv : bootBuiltins x = some (.type T)) (ha : PA X (e :: es) t) (hn : x ≠ "__name__" := by decide) (hdb : (x == ("__debug__" : Str)) = false := by decide)
    (he : starEach (e :: es) X.env = (false, eval e X.env) :: starEach es X.env := by rfl) (hpl : (backTo pos (starEach es X.env)).any (·.1) = false := by rfl) : PE X (.Call (.Name x p) (e :: es) [] pos) (tCB r t) := by
  intro pins s σ H Q I h
  refine wpAny_Call_Name_kw (ld_blt I hg hm hv ?_ hn hdb)
  exact PyProof.Rows.callWith_type1 (thn (ha pos pins s σ H _ I h) fun us s1 ⟨vs, H1, I1, r1, q1⟩ => hc pins s1 σ H1 vs us Q I1 r1 q1) he hpl
end
end L2
namespace HT
open PySem PyProof.Rows
section
open PySem.SeqAt
open PySem.AutoSeq1 (wpAny_loadPart')
open PySem.MeetsSeq PySem.MeetsSeq2 PySem.MeetsSeq3
end
section
variable {prog : Program} {w : World} {A : Around} {E : Value → Shared → Prop} {s : Shared}
theorem cat_tup {t b : Addr} {vs ws : List Value} {Q : Value → Shared → Prop} (ht : IsTup s.heap t vs.toArray) (hb : IsTup s.heap b ws.toArray) (hv : vs ≠ [])
    (h1 : ws = [] → Q (.ref t) s) (h2 : ws ≠ [] → Q (.ref s.heap.objs.size) { s with heap := s.heap.push { cls := .type "tuple", data := .seq (vs ++ ws).toArray } })
    (hsz : vs.length + ws.length ≤ sizeLine) : wpAny (model prog w) A (binaryOp .Add (.ref t) (.ref b)) Q E s := by
  obtain ⟨⟨cls, dd, data, sl⟩, ho, hc, n, hd⟩ := id ht
  obtain ⟨⟨cls2, dd2, data2, sl2⟩, ho2, hc2, n2, hd2⟩ := id hb
  simp only at hc hd hc2 hd2
  subst hc hd hc2 hd2
  have e : vs.toArray ++ ws.toArray = (vs ++ ws).toArray := by simp
  by_cases hw : ws = []
  · exact concat_meets ⟨_, ho, rfl⟩ ⟨_, ho2, rfl⟩ noFill_tuple_add seq_tuple_add PySem.F.slot_tuple_add PySem.F.entry_tuple_add (PySem.F.args_tuple_add_2 _ _)
      (tuple_addW1 t b vs.toArray ws.toArray n n2 dd dd2 sl sl2 (by simpa using hv) (by simp [hw])) ⟨ho, ho2, h1 hw⟩
  · refine concat_meets ⟨_, ho, rfl⟩ ⟨_, ho2, rfl⟩ noFill_tuple_add seq_tuple_add PySem.F.slot_tuple_add PySem.F.entry_tuple_add (PySem.F.args_tuple_add_2 _ _)
      (tuple_addW2 t b vs.toArray ws.toArray n n2 dd dd2 sl sl2 (by simpa using hv) (by simpa using hw) (by rw [List.size_toArray, List.size_toArray]; exact hsz)) ⟨ho, ho2, ?_⟩
    rw [e]
    exact h2 hw
end
end HT
namespace L2
open PySem PySem.Spec PyProof.Rows
abbrev TO := St → Hp → (Option Int → Hp → Prop) → Prop
def PO (X : Cx) (e : Option Expr) (t : TO) : Prop :=
  ∀ (pins : List (Addr × Obj)) (s : Shared) (σ : St) (H : Hp) (Q : Option Int → Hp → Prop), Inv X pins σ H s → t σ H Q →
    wpAny (model X.prog X.w) X.A (evalPart e X.env) (fun u s' => ∃ o H', Inv X pins σ H' s' ∧ IsPart u o ∧ Q o H') X.xe s
section
variable {X : Cx} {e : Expr} {te : TE} {lo hi : Option Expr} {tl th : TO} {pos p2 : Pos}
def SlR (X : Cx) (r : V → Option Int → Option Int → Hp → VK → Prop) : Prop :=
  ∀ (pins : List (Addr × Obj)) (s : Shared) (σ : St) (H : Hp) (x : V) (v vl vu : Value) (lo hi : Option Int) (sl : Addr) (Q : VK), Inv X pins σ H s → RelV x v → s.heap.IsSliceOf sl vl vu .none → IsPart vl lo → IsPart vu hi → r x lo hi H Q →
    ∃ T id, typeLookup (.type T) "__getitem__" = pure (some (.builtin id)) ∧ s.TypeIs v T ∧ wpAny (model X.prog X.w) X.A (getItem v (.ref sl)) (EP X pins σ Q) X.xe s
theorem SlR.or {r r' : V → Option Int → Option Int → Hp → VK → Prop} (h : SlR X r) (h' : SlR X r') : SlR X (fun x lo hi H Q => r x lo hi H Q ∨ r' x lo hi H Q) := by
  intro pins s σ H x v vl vu lo hi sl Q I rx hs pl pu q
  rcases q with q | q
  · exact h pins s σ H x v vl vu lo hi sl Q I rx hs pl pu q
  · exact h' pins s σ H x v vl vu lo hi sl Q I rx hs pl pu q
def rCatT (K : PySem.W.Frag) : R2 := fun x y H Q => ∃ a b xs ys, x = .ref a ∧ y = .ref b ∧ SqT K H a xs ∧ SqT K H b ys ∧ xs ≠ [] ∧ xs.length + ys.length ≤ sizeLine ∧
  (ys = [] → Q (.ref a) H) ∧ (ys ≠ [] → ∀ p, H p = none → Q (.ref p) (upd H p (.tup (xs ++ ys))))
theorem Vals.nil_iff {xs : List V} {us : List Value} (r : Vals xs us) : us = [] ↔ xs = [] := by
  cases r with
  | nil => simp
  | cons _ _ => simp
theorem op_catT : OpR X (binaryOp .Add) (rCatT X.K) := by
  intro pins s σ H x y v u Q I rx ry h
  obtain ⟨a, b, xs, ys, rfl, rfl, ha, hb, hx, hz, q1, q2⟩ := h
  cases rx
  cases ry
  obtain ⟨its, r1, p1, _⟩ := I.tuple ha
  obtain ⟨its2, r2, p2, _⟩ := I.tuple hb
  refine HT.cat_tup p1 p2 (fun z => hx (r1.nil_iff.mp z)) (fun z => ⟨.ref a, H, I, rfl, q1 (r2.nil_iff.mp z)⟩) (fun z => ?_) (by rw [← r1.length, ← r2.length]; exact hz)
  refine ⟨.ref s.heap.objs.size, _, I.laid (t' := s.toks) (o := .tup (xs ++ ys)) (fun b ob q => Heap.get?_push_of_some _ q) (Nat.le_refl _) ?_, rfl, q2 (fun w => z (r2.nil_iff.mpr w)) _ (I.hok.fresh (Nat.le_refl _))⟩
  exact ⟨by rw [List.length_append]; exact hz, _, r1.append r2, IsTup.new _ _⟩
end
end L2
namespace L2
open PySem PySem.Spec PyProof.Rows
def ixN (n : Nat) (i : Int) : Option Nat := if 0 ≤ i then (if i < n then some i.toNat else none) else if -(n : Int) ≤ i then some (i + n).toNat else none
def atI {α : Type} (xs : List α) (i : Int) : Option α := (ixN xs.length i).bind fun j => xs[j]?
theorem ixN_seq {n : Nat} {i : Int} {j : Nat} (h : ixN n i = some j) : seqIndex? i n = some j ∧ j < n ∧ -(n : Int) ≤ i ∧ i < n := by
  unfold ixN at h
  by_cases h0 : 0 ≤ i
  · rw [if_pos h0] at h
    by_cases h1 : i < n
    · rw [if_pos h1] at h
      have e : i.toNat = j := Option.some.inj h
      exact ⟨by rw [seqIndex_of h0 h1, e], by omega, by omega, h1⟩
    · rw [if_neg h1] at h; cases h
  · rw [if_neg h0] at h
    by_cases h1 : -(n : Int) ≤ i
    · rw [if_pos h1] at h
      have e : (i + n).toNat = j := Option.some.inj h
      exact ⟨by rw [seqIndex_neg (by omega) h1, e], by omega, h1, by omega⟩
    · rw [if_neg h1] at h; cases h
theorem atI_get {α : Type} {xs : List α} {i : Int} {v : α} (h : atI xs i = some v) : ∃ j, seqIndex? i xs.length = some j ∧ xs[j]? = some v ∧ j < xs.length ∧ -(xs.length : Int) ≤ i ∧ i < xs.length := by
  unfold atI at h
  cases e : ixN xs.length i with
  | none => rw [e] at h; cases h
  | some j =>
    rw [e] at h
    obtain ⟨h1, h2, h3, h4⟩ := ixN_seq e
    exact ⟨j, h1, h, h2, h3, h4⟩
theorem atI_nat {α : Type} {xs : List α} {j : Nat} {v : α} (h : xs[j]? = some v) : atI xs (j : Int) = some v := by
  have hj : j < xs.length := (List.getElem?_eq_some_iff.mp h).1
  have e : ixN xs.length (j : Int) = some j := by
    unfold ixN
    rw [if_pos (by omega), if_pos (by omega)]; simp
  unfold atI; rw [e]; exact h
def PlainIx (b : Expr) : Prop := ∀ o i, subscripted b false o i = operate [o, i] (getItem o i)
def IxR (X : Cx) (r : R2) : Prop :=
  ∀ (value slice : Expr) (pins : List (Addr × Obj)) (s : Shared) (σ : St) (H : Hp) (x y : V) (v u : Value) (Q : VK), Inv X pins σ H s → RelV x v → RelV y u → r x y H Q →
    subscripted slice false v u = operate [v, u] (getItem v u) → wpAny (model X.prog X.w) X.A (subscriptTail value slice v u) (EP X pins σ Q) X.xe s
def MtR (X : Cx) (id : String) (r : V → List V → Hp → VK → Prop) : Prop :=
  ∀ (pins : List (Addr × Obj)) (s : Shared) (σ : St) (H : Hp) (x : V) (xs : List V) (v : Value) (us : List Value) (Q : VK), Inv X pins σ H s → RelV x v → Vals xs us → r x xs H Q →
    wpAny (model X.prog X.w) X.A (call (.builtin id) (v :: us)) (EP X pins σ Q) X.xe s
section
variable {X : Cx} {a b : Expr} {ta tb : TE} {pos : Pos}
theorem IxR.or {r r' : R2} (h : IxR X r) (h' : IxR X r') : IxR X (fun x y H Q => r x y H Q ∨ r' x y H Q) := by
  intro value slice pins s σ H x y v u Q I rx ry q hs
  rcases q with q | q
  · exact h value slice pins s σ H x y v u Q I rx ry q hs
  · exact h' value slice pins s σ H x y v u Q I rx ry q hs
theorem MtR.or {id : String} {r r' : V → List V → Hp → VK → Prop} (h : MtR X id r) (h' : MtR X id r') : MtR X id (fun x xs H Q => r x xs H Q ∨ r' x xs H Q) := by
  intro pins s σ H x xs v us Q I rx rs q
  rcases q with q | q
  · exact h pins s σ H x xs v us Q I rx rs q
  · exact h' pins s σ H x xs v us Q I rx rs q
theorem pe_ix {r : R2} (hr : IxR X r) (ha : PE X a ta) (hb : PE X b tb) (hs : PlainIx b) : PE X (.Subscript a b pos) (tOp r ta tb) := by
  intro pins s σ H Q I h
  exact Subscript_ (binT ha hb I h fun v u s2 x y H2 I2 rx ry q => hr a b pins s2 σ H2 x y v u Q I2 rx ry q (hs _ _))
def rIxL (K : PySem.W.Frag) : R2 := fun x y H Q => ∃ p xs i v, x = .ref p ∧ y = .int i ∧ SqL K H p xs ∧ atI xs i = some v ∧ Q v H
def rIxT (K : PySem.W.Frag) : R2 := fun x y H Q => ∃ p xs i v, x = .ref p ∧ y = .int i ∧ SqT K H p xs ∧ atI xs i = some v ∧ Q v H
theorem ix_list : IxR X (rIxL X.K) := by
  intro value slice pins s σ H x y v u Q I rx ry h hs
  obtain ⟨p, xs, i, z, rfl, rfl, hq, he, q⟩ := h
  cases rx
  obtain ⟨t, rfl⟩ := ry
  obtain ⟨its, r, pl, hz⟩ := I.list hq
  obtain ⟨j, h1, h2, h3, h4, h5⟩ := atI_get he
  obtain ⟨w, ew, rw'⟩ := r.get h2
  have hl := r.length
  have hn := line63
  have fin : EP X pins σ Q w s := ⟨z, H, I, rw', q⟩
  by_cases h0 : 0 ≤ i
  · have hj : i.toNat = j := by
      rw [seqIndex_of h0 h5] at h1
      exact Option.some.inj h1
    exact item_listR pl.isList h0 (by omega) (by rw [hj]; simpa using ew) fin hs
  · have hj : (i + (its.toArray.size : Int)).toNat = j := by
      rw [seqIndex_neg (by omega) h4] at h1
      rw [List.size_toArray, ← hl]
      exact Option.some.inj h1
    exact subscriptTail_builtinR (x := w) pl.isList.typeIs slot_list_getitem.lookup
      (wpAny_getItem_list_neg (Q := fun r s' => r = w ∧ EP X pins σ Q r s') pl.isList (by omega) (by rw [List.size_toArray] <;> omega) (by omega) (by rw [hj]; simpa using ew) ⟨rfl, fin⟩) hs
theorem ix_tup : IxR X (rIxT X.K) := by
  intro value slice pins s σ H x y v u Q I rx ry h hs
  obtain ⟨p, xs, i, z, rfl, rfl, hq, he, q⟩ := h
  cases rx
  obtain ⟨t, rfl⟩ := ry
  obtain ⟨its, r, pl, hz⟩ := I.tuple hq
  obtain ⟨j, h1, h2, h3, h4, h5⟩ := atI_get he
  obtain ⟨w, ew, rw'⟩ := r.get h2
  have hl := r.length
  have hn := line63
  have fin : EP X pins σ Q w s := ⟨z, H, I, rw', q⟩
  exact subscriptTail_builtinR (x := w) pl.typeIs slot_tuple_getitem.lookup
    (getItem_tuple (j := j) (Q := fun r s' => r = w ∧ EP X pins σ Q r s') pl (by omega) (by omega) (by rw [List.size_toArray, ← hl]; exact h1) (by simpa using ew) ⟨rfl, fin⟩) hs
theorem mapSeq_set (its : List Value) (n j : Nat) (u : Value) : Obj.mapSeq (·.setIfInBounds j u) { cls := .type "list", data := .seq its.toArray n } = { cls := .type "list", data := .seq (its.set j u).toArray n } := by
  simp [Obj.mapSeq]
theorem Inv.lst {pins : List (Addr × Obj)} {σ : St} {H : Hp} {s : Shared} {p : Addr} {xs : List V} (I : Inv X pins σ H s) (h : H p = some (.lst xs)) :
    ∃ (its : List Value) (n : Nat), Vals xs its ∧ s.heap.get? p = some { cls := .type "list", data := .seq its.toArray n } ∧ xs.length ≤ sizeLine := by
  obtain ⟨z, its, n, r, e⟩ := I.hok p _ h
  exact ⟨its, n, r, e, z⟩
theorem Inv.lstUpd {pins : List (Addr × Obj)} {σ : St} {H : Hp} {s : Shared} {p : Addr} {xs ys : List V} {its its' : List Value} {n n' : Nat} {f : Obj → Obj} (I : Inv X pins σ H s) (h : H p = some (.lst xs))
    (ho : s.heap.get? p = some { cls := .type "list", data := .seq its.toArray n }) (hf : f { cls := .type "list", data := .seq its.toArray n } = { cls := .type "list", data := .seq its'.toArray n' }) (r : Vals ys its') (hz : ys.length ≤ sizeLine) (t : Nat) :
    Inv X pins σ (upd H p (.lst ys)) { s with heap := s.heap.update p f, toks := t } := by
  have e : (s.heap.update p f).get? p = some { cls := .type "list", data := .seq its'.toArray n' } := by
    rw [Heap.get?_update_self f ho (by rw [hf] <;> rfl), hf]
  refine I.write (x := p) (e := p) (by rw [h]; trivial) (.inl rfl) (fun b u hb q => (Heap.get?_update_other _ _ (Ne.symm hb)).trans q) ⟨_, e⟩ ?_
  exact ⟨hz, its', n', r, e⟩
def rSetL : V → V → V → Hp → (Hp → Prop) → Prop := fun o i v H Q => ∃ p xs k j, o = .ref p ∧ i = .int k ∧ H p = some (.lst xs) ∧ ixN xs.length k = some j ∧ Q (upd H p (.lst (xs.set j v)))
theorem set_list : PSet X rSetL := by
  intro pins s σ H o i v ov iv u Q I ro ri rv h
  obtain ⟨p, xs, k, j, rfl, rfl, hp, hj, q⟩ := h
  cases ro
  obtain ⟨t, rfl⟩ := ri
  obtain ⟨its, n, r, ho, hz⟩ := I.lst hp
  obtain ⟨h1, h2, h3, h4⟩ := ixN_seq hj
  have hl := r.length
  have hn := line63
  have I' : Inv X pins σ (upd H p (.lst (xs.set j v))) { s with heap := s.heap.update p (Obj.mapSeq (·.setIfInBounds j u)) } :=
    I.lstUpd hp ho (mapSeq_set its n j u) (r.set rv j) (by rw [List.length_set]; exact hz) s.toks
  by_cases h0 : 0 ≤ k
  · have hk : k.toNat = j := by
      rw [seqIndex_of h0 h4] at h1
      exact Option.some.inj h1
    exact PySem.W.ki_setAt ho h0 (by omega) (by rw [List.size_toArray, ← hl]; exact h4) (by rw [hk]; exact ⟨_, I', q⟩)
  · have hk : (k + (its.toArray.size : Int)).toNat = j := by
      rw [seqIndex_neg (by omega) h3] at h1
      rw [List.size_toArray, ← hl]
      exact Option.some.inj h1
    exact PySem.W.ki_setBack ho (by omega) (by rw [List.size_toArray, ← hl]; exact h3) (by omega) (by rw [hk]; exact ⟨_, I', q⟩)
theorem call_len_seq : CallR X (.builtin "len") (fun xs H Q => ∃ p ys, xs = [.ref p] ∧ (SqL X.K H p ys ∨ SqT X.K H p ys) ∧ Q (.int ys.length) H) := by
  intro pins s σ H xs us Q I r h
  obtain ⟨p, ys, rfl, hq, q⟩ := h
  obtain ⟨u, rfl, rx⟩ := vals1 r
  cases rx
  have hn := line63
  rcases hq with hq | hq
  · obtain ⟨its, r', pl, hz⟩ := I.list hq
    have hlen := r'.length
    exact Calls.call_len_list pl.isList (by simp only [List.size_toArray] <;> omega) ⟨.int ys.length, H, I.tok _, ⟨s.toks + 1, by rw [List.size_toArray, hlen]⟩, q⟩
  · obtain ⟨its, r', pl, hz⟩ := I.tuple hq
    have hlen := r'.length
    exact len_tuple pl (by simp only [List.size_toArray] <;> omega) ⟨.int ys.length, H, I.tok _, ⟨s.toks + 1, by rw [List.size_toArray, hlen]⟩, q⟩
theorem call_len_str : CallR X (.builtin "len") (fun xs H Q => ∃ z, xs = [.str z] ∧ z.length ≤ sizeLine ∧ Q (.int z.length) H) := by
  intro pins s σ H xs us Q I r h
  obtain ⟨z, rfl, hz, q⟩ := h
  obtain ⟨u, rfl, t, rfl⟩ := vals1 r
  have hn := line63
  exact len_str (by omega) ⟨.int z.length, H, I.tok _, ⟨_, rfl⟩, q⟩
theorem CallR.or {f : Value} {r r' : List V → Hp → VK → Prop} (h : CallR X f r) (h' : CallR X f r') : CallR X f (fun xs H Q => r xs H Q ∨ r' xs H Q) := by
  intro pins s σ H xs us Q I rs q
  rcases q with q | q
  · exact h pins s σ H xs us Q I rs q
  · exact h' pins s σ H xs us Q I rs q
theorem call_list_of : CallR X (.type "list") (fun xs H Q => ∃ p ys, xs = [.ref p] ∧ (SqL X.K H p ys ∨ SqT X.K H p ys) ∧ ∀ l, H l = none → Q (.ref l) (upd H l (.lst ys))) := by
  intro pins s σ H xs us Q I r h
  obtain ⟨p, ys, rfl, hq, q⟩ := h
  obtain ⟨u, rfl, rx⟩ := vals1 r
  cases rx
  have fin : ∀ (its : List Value), Vals ys its → ys.length ≤ sizeLine → ∀ (h' : Heap) (c' : Nat), (∀ b o', s.heap.get? b = some o' → h'.get? b = some o') →
      h'.get? s.heap.objs.size = some { cls := .type "list", dict := none, data := .seq its.toArray c', slots := #[] } → EP X pins σ Q (.ref s.heap.objs.size) { s with heap := h' } := fun its r' hz h' c' kp e =>
    ⟨.ref s.heap.objs.size, _, I.laid (t' := s.toks) kp (Nat.le_refl _) (show ObjOk X.prog X.w _ h' _ (.lst ys) from ⟨hz, its, c', r', e⟩), rfl, q _ (I.hok.fresh (Nat.le_refl _))⟩
  rcases hq with hq | hq
  · obtain ⟨its, r', pl, hz⟩ := I.list hq
    have hlen := r'.length
    obtain ⟨o, ho, hc, n, hd⟩ := pl.isList
    exact call_list_seq p (.inl rfl) ho hc hd (fun h' c' kp e => fin its r' hz h' c' kp e) (by simp only [List.size_toArray] <;> omega)
  · obtain ⟨its, r', pl, hz⟩ := I.tuple hq
    have hlen := r'.length
    obtain ⟨o, ho, hc, n, hd⟩ := pl
    exact call_list_seq p (.inr rfl) ho hc hd (fun h' c' kp e => fin its r' hz h' c' kp e) (by simp only [List.size_toArray] <;> omega)
theorem call_tuple_of : CallR X (.type "tuple") (fun xs H Q => ∃ p ys, xs = [.ref p] ∧ ((SqL X.K H p ys ∧ ∀ l, H l = none → Q (.ref l) (upd H l (.tup ys))) ∨ (SqT X.K H p ys ∧ Q (.ref p) H))) := by
  intro pins s σ H xs us Q I r h
  obtain ⟨p, ys, rfl, h⟩ := h
  obtain ⟨u, rfl, rx⟩ := vals1 r
  cases rx
  rcases h with ⟨hq, q⟩ | ⟨hq, q⟩
  · obtain ⟨its, r', pl, hz⟩ := I.list hq
    have hlen := r'.length
    refine call_tuple_list pl.isList (fun h' kp => ?_) (by simp only [List.size_toArray] <;> omega)
    have I1 : Inv X pins σ H { s with heap := h' } := I.kept (t' := s.toks) kp
    have I2 : Inv X pins σ (upd H h'.objs.size (.tup ys)) { s with heap := h'.push { cls := .type "tuple", data := .seq its.toArray } } :=
      I1.laid (t' := s.toks) (fun b o e => Heap.get?_push_of_some _ e) (Nat.le_refl _) (show ObjOk X.prog X.w _ _ _ (.tup ys) from ⟨hz, its, r', IsTup.new _ _⟩)
    exact ⟨.ref h'.objs.size, _, I2, rfl, q _ (I1.hok.fresh (Nat.le_refl _))⟩
  · obtain ⟨its, r', pl, hz⟩ := I.tuple hq
    exact call_tuple_same pl ⟨.ref p, H, I, rfl, q⟩
def tyV (K : PySem.W.Frag) (T : String) (x : V) (H : Hp) : Prop := match x with
  | .str _ => T = "str"
  | .int _ => T = "int"
  | .ref p => (T = "list" ∧ ∃ xs, SqL K H p xs) ∨ (T = "tuple" ∧ ∃ o, K.lookup p = some o ∧ o.cls = .type "tuple" ∧ o.dict = none) ∨
      (T = "dict" ∧ ((∃ kvs, H p = some (.dK kvs)) ∨ ∃ kvs, H p = some (.dT kvs))) ∨ (T = "set" ∧ ∃ S n, H p = some (.set S n))
  | _ => False
def tBM (K : PySem.W.Frag) (T : String) (r : V → List V → Hp → VK → Prop) (to : TE) (t : TA) : TE := fun σ H Q => to σ H fun x H1 => tyV K T x H1 ∧ t σ H1 fun xs H2 => r x xs H2 Q
variable {o e : Expr} {es : List Expr} {to : TE} {t : TA} {name : Str} {apos cpos : Pos} {T id : String} {r : V → List V → Hp → VK → Prop}
/- xs.append(e), list.index on a module's tuple .. are MtR facts of 06m -/
end
end L2
namespace L2
open PySem PySem.Spec PyProof.Rows
def MtM (X : Cx) (id : String) (r : V → List V → Hp → VK → Prop) : Prop :=
  ∀ (pins : List (Addr × Obj)) (s : Shared) (σ : St) (H : Hp) (x : V) (xs : List V) (v : Value) (us : List Value) (Q : VK), Inv X pins σ H s → RelV x v → Vals xs us → r x xs H Q →
    wpAny (model X.prog X.w) X.A (call (.builtin id) (v :: us)) (EP X pins σ Q) X.xe s
theorem Vals.one : ∀ {x : V} {us : List Value}, Vals [x] us → ∃ u, us = [u] ∧ RelV x u
  | _, _, .cons r .nil => ⟨_, rfl, r⟩
theorem Vals.two : ∀ {x y : V} {us : List Value}, Vals [x, y] us → ∃ u v, us = [u, v] ∧ RelV x u ∧ RelV y v
  | _, _, _, .cons r (.cons q .nil) => ⟨_, _, rfl, r, q⟩
theorem Vals.zero : ∀ {us : List Value}, Vals [] us → us = []
  | _, .nil => rfl
theorem Vals.reverse {xs : List V} {us : List Value} (h : Vals xs us) : Vals xs.reverse us.reverse := by
  induction h with
  | nil => exact .nil
  | cons r t ih => rw [List.reverse_cons, List.reverse_cons]; exact Vals.append ih (.cons r .nil)
theorem Vals.rep {xs : List V} {us : List Value} (h : Vals xs us) : ∀ k : Nat, Vals (List.replicate k xs).flatten (List.replicate k us).flatten
  | 0 => .nil
  | k + 1 => by
    rw [List.replicate_succ, List.replicate_succ, List.flatten_cons, List.flatten_cons]
    exact Vals.append h (Vals.rep h k)
theorem foldl_rep (its : List Value) : ∀ (k : Nat) (acc : List Value),
    List.foldl (fun x1 x2 => x1 ++ x2) acc.toArray (List.replicate k its.toArray) = (acc ++ (List.replicate k its).flatten).toArray
  | 0, acc => by simp
  | k + 1, acc => by
    have e : acc.toArray ++ its.toArray = (acc ++ its).toArray := by simp
    have e2 : (acc ++ its) ++ (List.replicate k its).flatten = acc ++ (List.replicate (k + 1) its).flatten := by
      rw [List.replicate_succ, List.flatten_cons, List.append_assoc]
    rw [← e2, ← foldl_rep its k (acc ++ its), ← e, List.replicate_succ, List.foldl_cons]
section
variable {X : Cx} {pins : List (Addr × Obj)} {σ : St} {H : Hp} {s : Shared} {l b : Addr} {xs ys zs : List V}
theorem Inv.lset {its its' : List Value} {n : Nat} {f : Array Value → Array Value} {t' : Nat} (I : Inv X pins σ H s) (hH : H l = some (.lst xs))
    (e : s.heap.get? l = some { cls := .type "list", data := .seq its.toArray n }) (hf : f its.toArray = its'.toArray) (hv : Vals ys its') (hz : ys.length ≤ sizeLine) :
    Inv X pins σ (upd H l (.lst ys)) { s with heap := s.heap.update l (Obj.mapSeq f), toks := t' } := by
  have q := PySem.IsL.update e f
  rw [hf] at q
  refine I.write (x := l) (e := l) (by rw [hH]; exact trivial) (.inl rfl) (fun b' u hb hu => (Heap.get?_update_other s.heap (Obj.mapSeq f) (Ne.symm hb)).trans hu) ⟨_, q⟩ ?_
  exact ⟨hz, its', _, hv, q⟩
theorem Inv.lnew {its : List Value} {t' : Nat} (I : Inv X pins σ H s) (hv : Vals ys its) (hz : ys.length ≤ sizeLine) :
    Inv X pins σ (upd H s.heap.objs.size (.lst ys)) { s with heap := s.heap.push { cls := .type "list", data := .seq its.toArray }, toks := t' } :=
  I.laid (fun _ _ q => Heap.get?_push_of_some _ q) (Nat.le_refl _) ⟨hz, its, 0, hv, Heap.get?_push_size _ rfl⟩
theorem Inv.fresh (I : Inv X pins σ H s) : H s.heap.objs.size = none := I.hok.fresh (Nat.le_refl _)
theorem Inv.lstM (I : Inv X pins σ H s) (hH : H l = some (.lst xs)) : xs.length ≤ sizeLine ∧ ∃ (its : List Value) (n : Nat), Vals xs its ∧ xs.length = its.length ∧ s.heap.get? l = some { cls := .type "list", data := .seq its.toArray n } := by
  obtain ⟨z, its, n, r, e⟩ := I.hok l _ hH
  exact ⟨z, its, n, r, r.length, e⟩
theorem notLongL {n : Nat} (h : n ≤ sizeLine) : Builtin.List.listTooLong n = false := by
  unfold Builtin.List.listTooLong
  exact decide_eq_false (by omega)
end
section
variable {X : Cx}
def rAppend : V → List V → Hp → VK → Prop := fun x vs H Q => ∃ l xs y, x = .ref l ∧ vs = [y] ∧ H l = some (.lst xs) ∧ xs.length < sizeLine ∧ Q .non (upd H l (.lst (xs ++ [y])))
theorem mt_append : MtM X "list.append" rAppend := by
  intro pins s σ H x vs v us Q I rx rv h
  obtain ⟨l, xs, y, rfl, rfl, hH, hz, q⟩ := h
  cases rx
  obtain ⟨u, rfl, ru⟩ := rv.one
  obtain ⟨z, its, n, r, hl, e⟩ := I.lstM hH
  refine call_meets F.slot_list_append ⟨_, e, rfl⟩ F.entry_list_append (F.args_list_append_2 _ _) (PySem.list_append l its.toArray n u (by rw [List.size_toArray]; omega)) ⟨e, ?_⟩
  refine ⟨.non, _, I.lset (its' := its ++ [u]) hH e (by simp) (r.append (.cons ru .nil)) ?_, rfl, q⟩
  rw [List.length_append, List.length_singleton]
  omega
theorem len_rep {α : Type} (xs : List α) (k : Nat) : (List.replicate k xs).flatten.length = k * xs.length := by
  induction k with
  | zero => simp
  | succ k ih => rw [List.replicate_succ, List.flatten_cons, List.length_append, ih, Nat.succ_mul, Nat.add_comm]
end
section
variable {prog : Program} {w : World} {A : Around} {E : Value → Shared → Prop} {s : Shared}
set_option maxRecDepth 100000 in
end
section
variable {X : Cx}
end
end L2
namespace Att
open PySem PySem.W PySem.Calls PyProof.Rows
theorem ints_of_wellAll {P : Params} {h : Heap} : ∀ (ns : List Int) (vs : List Value), WellAll P h vs (ns.map WData.int) → IntsAre vs ns := by
  intro ns
  induction ns with
  | nil =>
    intro vs w
    rw [List.map_nil] at w
    cases w
    exact .nil
  | cons n ns ih =>
    intro vs w
    rw [List.map_cons] at w
    cases w with
    | cons a b =>
      cases a
      exact .cons _ _ (ih _ b)
theorem script_of {l : OpenLaw} {n : Nat} (hn : l.most = some n) {P : Params} {h : Heap} {args : List WData} {vals : List Value}
    (hpre : l.row.toRowW.claim.pre args = true) (hwl : WellAll P h vals args) :
    ∃ a vs ns, vals = [Value.ref a] ∧ args = [WData.list (ns.map WData.int)] ∧ h.get? a = some { cls := .type "list", data := .seq vs.toArray } ∧ IntsAre vs ns ∧ ns.length ≤ n := by
  have hsh : WShape.hasAll [] args [.list .int] = true := (pre_splitW hpre).1
  have hc : l.pre.holds [] { args := args } = true := (pre_splitW hpre).2
  obtain ⟨d, r, rfl, h1, h2⟩ := hasAllW_cons hsh
  obtain rfl := hasAllW_nil h2
  obtain ⟨xs, rfl, h3⟩ := hasW_list h1
  obtain ⟨ns, rfl⟩ := items_int h3
  have hlen : ns.length ≤ n := by
    unfold OpenLaw.pre at hc
    have h4 : (WTm.not (.lt (.lit (.int (n : Int))) (.len (.arg 0)))).holds [] { args := [.list (ns.map .int)] } = true := by
      have h4 := (holds_andW hc).1
      rw [hn] at h4
      exact h4
    have h5 := condW_of h4 (w_not (w_lt w_lit (w_len_list (w_arg rfl))))
    rw [List.length_map] at h5
    refine Nat.le_of_not_lt fun q => ?_
    have q' : (n : Int) < ((ns.length : Nat) : Int) := by omega
    first
      | (rw [decide_eq_true q'] at h5; exact absurd h5 (by decide))
      | (simp at h5; omega)
  cases hwl with
  | cons w1 w2 =>
    cases w2
    cases w1 with
    | list ho hall => exact ⟨_, _, ns, rfl, rfl, ho, ints_of_wellAll ns _ hall, hlen⟩
theorem post_true (l : OpenLaw) (args : List WData) : l.row.toRowW.claim.post args (.bool true) args = true :=
  postW_of (r := l.row.toRowW) (X := (true == true))
    (show WShape.has [] (.bool true) .bool = true by first | rfl | decide | simp [WShape.has, WShape.arms, WShape.armsAll])
    (show (WTm.eq .res (.lit (.bool true))).value [] { args := args, res := some (.bool true), after := args } = some (.bool (true == true)) from w_eq_bool (w_res rfl) w_lit) rfl
theorem attach_call {l : OpenLaw} {n : Nat} {q : Program} {loose : List Str} {XP : (Str → Option Value) → Heap → Prop} {YP : World → Heap → Prop} {d : DefRec}
    (hn : l.most = some n) (hdf : d.params.defaults = [])
    (call : ∀ (w : World) (s₀ s₁ : Shared) (mg mb : Str → Option Value) (fa : Addr) (o : Obj) (pm cd doc : Value) (a : Addr) (vs : List Value) (ns : List Int),
      Ground q loose [] XP w s₀ mg mb s₁.heap → YP w s₁.heap →
      s₁.heap.get? fa = some o → o.data = .func (docDef d.name d.params d.body d.scope pm cd doc) → s₁.heap.CodeRec cd d.name → mg d.name = some (.ref fa) →
      s₁.heap.get? a = some { cls := .type "list", data := .seq vs.toArray } → IntsAre vs ns → ns.length ≤ n → s₁.gens = #[] →
      codeAny (model l.prog w) callerA (.call (.ref fa) ⟨[.ref a], []⟩) (fun r s' => r = .ok (.ret (.bool true)) ∧ OldK s₁.heap s'.heap ∧ s'.os = s₁.os ∧ AllBare s'.gens) s₁) :
    WalkO q loose XP YP l.row.toRowW d [] (fun f vs => PySem.call f vs) := by
  intro w s₀ s₁ mg mb G Y fa o pm cd doc dV kV ho hd hcd hD hmg hg args vals as hpre hlay hrd hwl hlo
  obtain rfl : dV = .none := Dflts.none hD hdf
  obtain rfl : kV = .none := Dflts.noKw hD
  obtain ⟨a, vs, ns, rfl, rfl, hobj, hints, hlen⟩ := script_of hn hpre hwl
  refine enter_call (codeAny_mono (call w s₀ s₁ mg mb fa o pm cd doc a vs ns G Y ho (fd_plain hd) hcd hmg hobj hints hlen hg) fun r s' hq => ?_)
  obtain ⟨rfl, h2, h3, h4⟩ := hq
  exact ⟨.inl ⟨.bool true, .bool true, [], rfl, fun _ => rfl, .bool true, post_true l _, fun _ => ⟨List.Pairwise.nil, fun _ hm => (nomatch hm)⟩⟩, h2, h3, h4⟩
section
variable {prog : Program} {w : World} {A : Around} {E : Value → Shared → Prop} {s : Shared} {K : Frag}
end
end Att
namespace L2
open PySem PySem.Spec PyProof.Rows
theorem vals_ints : ∀ {vs : List Value} {ns : List Int}, IntsAre vs ns → Vals (ns.map V.int) vs
  | _, _, .nil => .nil
  | _, _, .cons n t h => .cons ⟨t, rfl⟩ (vals_ints h)
def Only (H : Hp) : Prop := ∀ b, H b = none ∨ ∃ o xs, H b = some (.frz o (.lst xs))
theorem law_call {P : Program} {w : World} {K : PySem.W.Frag} {mg mb : Str → Option Value} {CX : CXT} {k : Nat} {fa a : Addr} {fd : FuncData} {x : Str} {sp : Sp} {s₁ : Shared} {vs : List Value} {ns : List Int}
    (KX : K.In s₁.heap) (hns : s₁.heap.Ns mainGlobals mg) (hb : s₁.heap.Ns builtinsNs mb) (hbb : ∀ x : Str, x ≠ "__name__" → mb x = bootBuiltins x) (hlim : s₁.heap.NoLimit) (hg : s₁.gens = #[])
    (ha : s₁.heap.get? a = some { cls := .type "list", data := .seq vs.toArray }) (hi : IntsAre vs ns) (hl : ns.length ≤ sizeLine) (hr : Room k callerA)
    (F : ∀ base : Heap, K.In base → base.Ns mainGlobals mg → FnOk P w K mg base CX k fa fd [x] sp) (hbind : ∀ (s : Shared) (u : Value), BindsTo s fd ⟨[u], []⟩ [(x, u)])
    (hsp : ∀ H : Hp, Only H → SqL K H a (ns.map V.int) → sp [.ref a] H (fun v _ => v = .bl true) fun _ _ _ => False)
    (hCX : ∀ H e s', CX [] H s₁ (fun _ _ _ => False) e s' → False) :
    codeAny (model P w) callerA (.call (.ref fa) ⟨[.ref a], []⟩) (fun r s' => r = .ok (.ret (.bool true)) ∧ OldK s₁.heap s'.heap ∧ s'.os = s₁.os ∧ AllBare s'.gens) s₁ := by
  have rv := vals_ints hi
  have lenV := hi.length
  -- from an abstract heap in which nothing but the script may be tracked
  have core : ∀ H : Hp, Only H → SqL K H a (ns.map V.int) → HOk P w H s₁.heap → (∀ b, H b ≠ none → b = a) → (H a ≠ none → K.lookup a = none) →
      codeAny (model P w) callerA (.call (.ref fa) ⟨[.ref a], []⟩) (fun r s' => r = .ok (.ret (.bool true)) ∧ OldK s₁.heap s'.heap ∧ s'.os = s₁.os ∧ AllBare s'.gens) s₁ := by
    intro H hO hS hok hA hK
    have base_of : ∀ {b : Addr} {o : Obj}, s₁.heap.get? b = some o → H b = none → (hidT s₁.heap H).get? b = some o := fun e n => hidT_get e n
    have noA : ∀ {b : Addr} {o : Obj} {es : Array DictEntry} {ep : Nat}, s₁.heap.get? b = some o → o.data = .dict es ep → H b = none := fun {b o es ep} e d => by
      cases q : H b with
      | none => rfl
      | some u =>
        have e' : b = a := hA b (by rw [q]; simp)
        subst e'
        rw [ha] at e; cases e
        have d' : Data.seq vs.toArray _ = Data.dict es ep := d
        cases d'
    have nsK : ∀ {b : Addr} {m : Str → Option Value}, s₁.heap.Ns b m → (hidT s₁.heap H).Ns b m := fun {b m} ⟨o, es, ep, e, d, r⟩ => ⟨o, es, ep, base_of e (noA e d), d, r⟩
    have hKb : K.In (hidT s₁.heap H) := fun b o e => base_of (KX b o e) (by
      cases q : H b with
      | none => rfl
      | some u =>
        have e' : b = a := hA b (by rw [q]; simp)
        subst e'
        rw [hK (by rw [q]; simp)] at e; cases e)
    have hM : Mod K mg (hidT s₁.heap H) := ⟨hKb, nsK hns, ⟨mb, nsK hb, hbb⟩, let ⟨mc, h1, h2⟩ := hlim; ⟨mc, nsK h1, h2⟩⟩
    have e0 : Env0 P w K mg (hidT s₁.heap H) callerA [] s₁ H := ⟨rfl, hM, fun b o e => of_hidT e, Nat.le_of_eq (hidT_size _ _), trivial, fun b hb => absurd (show b ∈ ([] : List Addr) from hb) (by simp), hok, .of_eq hg⟩
    refine codeAny_mono ((F _ hKb (nsK hns)).run callerA [] s₁ H ⟨[.ref a], []⟩ [.ref a] [.ref a] _ _ hr e0 (hbind s₁ (.ref a)) (.cons rfl .nil) (hsp H hO hS)) fun r s' h => ?_
    cases r with
    | error e => exact (hCX H e s' h).elim
    | ok fl =>
      cases fl with
      | next => exact False.elim h
      | brk => exact False.elim h
      | cont => exact False.elim h
      | ret u =>
        obtain ⟨v, H', os, bare, un, hok', r', q⟩ := h
        have q' : v = .bl true := q
        subst q'
        obtain rfl : u = Value.bool true := r'
        refine ⟨rfl, OldK.of_keep fun b o e => ?_, os, bare⟩
        cases q : H b with
        | none => exact un.keep b o e q (by intro z; exact absurd (show b ∈ ([] : List Addr) from z) (by simp)) (by simp)
        | some u =>
          rcases hO b with z | ⟨ob, xs, z⟩
          · rw [q] at z; cases z
          · have z2 := un.frzs b ob _ z
            obtain ⟨e1, _⟩ := hok b _ z
            obtain ⟨e2, _⟩ := hok' b _ z2
            rw [e] at e1; cases e1
            exact e2
  cases hk : K.lookup a with
  | some o =>
    -- the script is one of the module's own objects
    have e := KX a o hk
    rw [ha] at e
    cases e
    refine core (fun _ => none) (fun _ => .inl rfl) (.inr ⟨_, vs.toArray, _, hk, rfl, rfl, rfl, by rw [List.size_toArray, lenV]; exact hl, by simpa using rv⟩) (fun b u z => by have z' : (none : Option HO) = some u := z; cases z') (fun b z => absurd rfl z) fun z => absurd rfl z
  | none =>
    refine core (fun b => if b = a then some (.frz { cls := .type "list", data := .seq vs.toArray } (.lst (ns.map V.int))) else none) (fun b => ?_) (.inl (.inr ⟨{ cls := .type "list", data := .seq vs.toArray }, if_pos rfl⟩)) (fun b u z => ?_) (fun b z => ?_) fun _ => hk
    · by_cases hb : b = a
      · exact .inr ⟨_, _, if_pos hb⟩
      · exact .inl (if_neg hb)
    · by_cases hb : b = a
      · have z' := (if_pos hb).symm.trans z
        cases z'
        subst hb
        exact ⟨ha, by rw [List.length_map]; exact hl, vs, _, rv, ha⟩
      · have z' := (if_neg hb).symm.trans z
        cases z'
    · by_cases hb : b = a
      · exact hb
      · exact absurd (if_neg hb) z
end L2
namespace L2
open PySem PySem.Spec PyProof.Rows
theorem walk_of {l : PySem.W.OpenLaw} {n k : Nat} {q : Program} {loose : List Str} {XP : (Str → Option Value) → Heap → Prop} {YP : World → Heap → Prop} {d : DefRec} {K : Params → PySem.W.Frag} {CX : World → CXT} {sp : World → Sp} {x : Str}
    (hn : l.most = some n) (hn2 : n ≤ sizeLine) (hdf : d.params.defaults = []) (hr : Room k callerA)
    (hY : ∀ (w : World) (h : Heap), YP w h → (K w.params).In h)
    (F : ∀ (w : World) (mg : Str → Option Value) (fa : Addr) (h : Heap), (K w.params).In h → h.Ns mainGlobals mg → mg d.name = some (.ref fa) →
      ∃ fd : FuncData, (∀ (s : Shared) (u : Value), BindsTo s fd ⟨[u], []⟩ [(x, u)]) ∧
        ∀ base : Heap, (K w.params).In base → base.Ns mainGlobals mg → FnOk l.prog w (K w.params) mg base (CX w) k fa fd [x] (sp w))
    (hsp : ∀ (w : World) (H : Hp) (a : Addr) (ns : List Int), ns.length ≤ n → Only H → SqL (K w.params) H a (ns.map V.int) → sp w [.ref a] H (fun v _ => v = .bl true) fun _ _ _ => False)
    (hCX : ∀ (w : World) (H : Hp) (s : Shared) (e : Value) (s' : Shared), CX w [] H s (fun _ _ _ => False) e s' → False) :
    PySem.W.WalkO q loose XP YP l.row.toRowW d [] (fun f vs => PySem.call f vs) := by
  refine Att.attach_call hn hdf fun w s₀ s₁ mg mb fa o pm cd doc a vs ns G Y ho hd hcd hmg hobj hints hlen hg => ?_
  have KX := hY w _ Y
  obtain ⟨fd, hb, hF⟩ := F w mg fa _ KX G.T.g hmg
  exact law_call KX G.T.g G.T.b G.T.builtins G.T.nolimit hg hobj hints (Nat.le_trans hlen hn2) hr hF hb (fun H hO hS => hsp w H a ns hlen hO hS) fun H e s' => hCX w H s₁ e s'
end L2
/- THE LAST THEOREM (shape; LID, My.* are yours):
   My.Adr: a structure of the addresses that your layer names (classes, functions); My.Txt K t: a structure (Prop) of the equations over K;
   My.txt_mk : {K} {implicit addresses ..} (e1 : nsIn K mainGlobals "law" = some (some (.ref f))) (e2 : K.lookup f = some ⟨oc, od, .func (fnOf "law" "law" params body scope dV kV doc pm an cdv ct), sl⟩) (e3 : codeIn K cdv "law" = true) .. : ∃ t, My.Txt K t
set_option maxRecDepth 100000 in
set_option maxHeartbeats 0 in
(the tactic k_is has no namespace: write k_is) -/
namespace L2
open PySem PySem.Spec PyProof.Rows
def defArgs (s : Stmt) : Arguments := match s with
  | .FunctionDef _ a _ _ _ _ _ _ _ _ => a
  | _ => { posonlyargs := [], args := [], vararg := none, kwonlyargs := [], kw_defaults := [], kwarg := none, defaults := [] }
def defBody (s : Stmt) : List Stmt := match s with
  | .FunctionDef _ _ b _ _ _ _ _ _ _ => b
  | _ => []
def defScope (s : Stmt) : Scope := match s with
  | .FunctionDef _ _ _ _ _ _ sc _ _ _ => sc
  | _ => { kind := .function, names := [], isGenerator := false, isCoroutine := false }
abbrev CX0 : CXT := fun _ _ _ _ _ _ => False
abbrev E0 : XK := fun _ _ _ => False
theorem pass0 {X : Cx} : Passes CX0 X E0 := fun _ _ _ _ _ _ _ h => h.elim
structure Fun (K : PySem.W.Frag) (x qual : Str) (st : Stmt) (f : Addr) (fd : FuncData) : Prop where
  ex : ∃ (oc : Value) (od : Option Addr) (kV doc pm : Value) (an : Option Addr) (cdv ct : Value) (osl : Array (Option Value)),
    fd = PySem.W.fnOf x qual (defArgs st) (defBody st) (defScope st) .none kV doc pm an cdv ct ∧ K.lookup f = some ⟨oc, od, .func fd, osl⟩ ∧ PySem.W.codeIn K cdv qual = true
  kp : PySem.W.keepIn K (.ref f) = true
section
variable {P : Program} {w : World} {K : PySem.W.Frag} {mg : Str → Option Value} {base : Heap}
theorem Fun.ok {x qual : Str} {st : Stmt} {f : Addr} {fd : FuncData} {N ps : List Str} {k : Nat} {sp : Sp} (F : Fun K x qual st f fd) (S : FnScope N ps (defScope st)) (len : ∀ vs H Q E, sp vs H Q E → vs.length = ps.length)
    (hbody : ∀ (cdv : Value) (A : Around) (outer : List Env) (s : Shared) (H : Hp) (vs : List V) (Q : VK) (E : XK), Room k (A.deeper (envOfC qual (defScope st) s.heap.objs.size f cdv)) → sp vs H Q E →
      ∃ t, PSs (cxOf CX0 P w K mg base N qual (defScope st) f cdv A outer s H E).nox (defBody st) t ∧ t { nx := fun _ H' => Q .non H', rt := Q } (start N vs) H) : FnOk P w K mg base CX0 (k + 1) f fd ps sp := by
  obtain ⟨oc, od, kV, doc, pm, an, cdv, ct, osl, rfl, lk, hcd⟩ := F.ex
  refine fn_of lk hcd S len fun A outer s H vs Q E hr hsp => ?_
  obtain ⟨t, h, q⟩ := hbody cdv A outer s H vs Q E hr hsp
  exact ⟨t, h.nox, q⟩
theorem Fun.binds {x qual : Str} {st : Stmt} {f : Addr} {fd : FuncData} {ps : List Str} (F : Fun K x qual st f fd)
    (h : ∀ (kV doc pm : Value) (an : Option Addr) (cdv ct : Value) (us : List Value), us.length = ps.length → bindArgs (PySem.W.fnOf x qual (defArgs st) (defBody st) (defScope st) .none kV doc pm an cdv ct) ⟨us, []⟩ = pure (ps.zip us)) : Binds K fd ps [] := by
  obtain ⟨oc, od, kV, doc, pm, an, cdv, ct, osl, rfl, lk, hcd⟩ := F.ex
  exact .all (h kV doc pm an cdv ct)
theorem fun_mk {x qual : Str} {st : Stmt} {f : Addr} {oc : Value} {od an : Option Addr} {osl : Array (Option Value)} {kV doc pm cdv ct : Value} (l : K.lookup f = some ⟨oc, od, .func (PySem.W.fnOf x qual (defArgs st) (defBody st) (defScope st) .none kV doc pm an cdv ct), osl⟩)
    (c : PySem.W.codeIn K cdv qual = true) (k : PySem.W.keepIn K (.ref f) = true) : Fun K x qual st f (PySem.W.fnOf x qual (defArgs st) (defBody st) (defScope st) .none kV doc pm an cdv ct) := ⟨⟨oc, od, kV, doc, pm, an, cdv, ct, osl, rfl, l, c⟩, k⟩
end
section
variable {X : Cx}
end
theorem iteT {A B : Prop} (h : A) : if true = true then A else B := by
  rw [if_pos rfl]
  exact h
def Same (H H' : Hp) : Prop := ∀ b o, H b = some o → H' b = some o
theorem Same.refl (H : Hp) : Same H H := fun _ _ h => h
theorem Same.trans {H H1 H2 : Hp} (a : Same H H1) (b : Same H1 H2) : Same H H2 := fun c o h => b c o (a c o h)
theorem Same.free {H H' : Hp} (e : Same H H') {l : Addr} (h : H' l = Option.none) : H l = Option.none := by
  cases q : H l with
  | none => rfl
  | some o =>
    rw [e l o q] at h
    cases h
theorem Same.seq {K : PySem.W.Frag} {H H' : Hp} {a : Addr} {xs : List V} (e : Same H H') (h : SqL K H a xs) : SqL K H' a xs := by
  rcases h with (h | ⟨o, h⟩) | h
  · exact .inl (.inl (e _ _ h))
  · exact .inl (.inr ⟨o, e _ _ h⟩)
  · exact .inr h
end L2
set_option maxHeartbeats 4000000
namespace L3
open PySem PySem.Spec PyProof.Rows L2
section
variable {prog : Program} {w : World} {A : Around} {R : Result → Shared → Prop} {s : Shared}
theorem compLoop_go {elt target iter : Expr} {ifs : List Expr} {scope : Scope} {pos : Pos} {it acc : Value} {env : Env} (I : Nat → Shared → Prop)
    (turn : ∀ n s, I n s → wpAny (model prog w) A (pyNext it) (fun r s₁ => match r with
      | none => R (.ok .next) s₁
      | some v => wpAny (model prog w) A (letOwnedTupleGo target it v) (fun _ s₀ => wpAny (model prog w) A (assign target env v) (fun _ s₂ =>
          wpAny (model prog w) A (forIn ifs true fun c r => if r = true then do let ok ← isTrue c env (eval c env); pure (ForInStep.yield ok) else pure (ForInStep.yield r)) (fun ok s₃ =>
            if ok = true then wpAny (model prog w) A (eval elt env) (fun x s₄ =>
              wpAny (model prog w) A (call (.builtin "list.append") [acc, x]) (fun _ s₅ => ∃ m, m < n ∧ I m s₅) (fun _ _ => False) s₄) (fun _ _ => False) s₃
            else ∃ m, m < n ∧ I m s₃) (fun _ _ => False) s₂) (fun _ _ => False) s₀) (fun _ _ => False) s₁) (fun _ _ => False) s)
    (n : Nat) (h : I n s) :
    codeAny (model prog w) A (.compLoop (.ListComp elt [⟨target, iter, ifs, 0⟩] scope pos) 0 it acc env) R s := by
  refine codeAny_loop rfl I (fun n s hI => ?_) n h
  show wpAny _ A ((compTurn (.ListComp elt [⟨target, iter, ifs, 0⟩] scope pos) 0 it acc env).onRaise (fun x => do noteFrame x env; theTreesLotGoes x)) _ _ s
  refine wpAny_noted ?_
  rw [compTurn_list]
  refine wpAny_bind (wpAny_standAt (wpAny_bind (wpAny_mono (turn n s hI) (fun r s₁ h₁ => ?_) fun _ _ h' => h'.elim)))
  cases r with
  | none => exact wpAny_pure h₁
  | some v =>
    refine wpAny_bind (wpAny_mono h₁ (fun _ s₀ h₀ => ?_) fun _ _ h' => h'.elim)
    refine wpAny_bind (wpAny_mono h₀ (fun _ s₂ h₂ => wpAny_bind (wpAny_mono h₂ (fun ok s₃ h₃ => ?_) fun _ _ h' => h'.elim)) fun _ _ h' => h'.elim)
    cases ok with
    | false => exact wpAny_pure ⟨rfl, h₃⟩
    | true =>
      exact wpAny_bind (wpAny_bind (wpAny_mono h₃ (fun x s₄ h₄ => wpAny_bind (wpAny_mono h₄ (fun _ s₅ h₅ => wpAny_pure (wpAny_pure ⟨rfl, h₅⟩)) fun _ _ h' => h'.elim)) fun _ _ h' => h'.elim))
end
def closL (cells : List (Str × Addr)) : List (Str × NameKind) → List (Str × Addr) → List (Str × Addr)
  | [], acc => acc
  | (n, k) :: r, acc => if k == .free then (match cells.lookup n with | some c => closL cells r ((n, c) :: acc) | none => closL cells r acc) else closL cells r acc
theorem closL_spec {cells : List (Str × Addr)} : ∀ (names : List (Str × NameKind)) (acc : List (Str × Addr)), (∀ x c, acc.lookup x = some c → cells.lookup x = some c) →
    ∀ x c, (closL cells names acc).lookup x = some c → cells.lookup x = some c
  | [], acc, h, x, c, e => h x c e
  | (n, k) :: r, acc, h, x, c, e => by
    unfold closL at e
    split at e
    · split at e
      · rename_i d q
        refine closL_spec r _ (fun y b e' => ?_) x c e
        rw [List.lookup_cons] at e'
        split at e'
        · rename_i z
          cases e'
          have z' : y = n := by simpa using z
          rw [z']; exact q
        · exact h y b e'
      · exact closL_spec r _ h x c e
    · exact closL_spec r _ h x c e
theorem closL_has {cells : List (Str × Addr)} {x : Str} : ∀ (names : List (Str × NameKind)) (acc : List (Str × Addr)), (∃ c, cells.lookup x = some c) → ((x, NameKind.free) ∈ names ∨ ∃ c, acc.lookup x = some c) →
    ∃ c, (closL cells names acc).lookup x = some c
  | [], acc, _, h => by
    rcases h with h | h
    · simp at h
    · exact h
  | (n, k) :: r, acc, hc, h => by
    unfold closL
    split
    · rename_i hk
      split
      · rename_i d q
        refine closL_has r _ hc ?_
        rcases h with h | ⟨c, h⟩
        · rcases List.mem_cons.mp h with e | e
          · cases e
            exact .inr ⟨d, by simp [List.lookup_cons]⟩
          · exact .inl e
        · refine .inr ?_
          rw [List.lookup_cons]
          split
          · exact ⟨_, rfl⟩
          · exact ⟨c, h⟩
      · rename_i q
        refine closL_has r _ hc ?_
        rcases h with h | h
        · rcases List.mem_cons.mp h with e | e
          · cases e
            obtain ⟨c, hc⟩ := hc
            rw [hc] at q; cases q
          · exact .inl e
        · exact .inr h
    · rename_i hk
      refine closL_has r _ hc ?_
      rcases h with h | h
      · rcases List.mem_cons.mp h with e | e
        · cases e
          exact absurd rfl hk
        · exact .inl e
      · exact .inr h
theorem closureFor_eq {scope : Scope} {env : Env} (h : ∀ x ∈ scope.names, x.2 = .free → ∃ c, env.cells.lookup x.1 = some c) : closureFor scope env = pure (closL env.cells scope.names []) := by
  have key : ∀ (names : List (Str × NameKind)) (acc : List (Str × Addr)), (∀ x ∈ names, x.2 = .free → ∃ c, env.cells.lookup x.1 = some c) →
      (forIn names acc (fun (x : Str × NameKind) (cs : List (Str × Addr)) => if (x.2 == NameKind.free) = true then (do let a ← cellOf env x.1; pure (ForInStep.yield ((x.1, a) :: cs)) : Sem (ForInStep (List (Str × Addr)))) else pure (ForInStep.yield cs))) = (pure (closL env.cells names acc) : Sem (List (Str × Addr))) := by
    intro names
    induction names with
    | nil => intro acc _; rfl
    | cons p r ih =>
      intro acc hh
      obtain ⟨n, k⟩ := p
      rw [List.forIn_cons]
      have ih' := ih
      by_cases hk : (k == NameKind.free) = true
      · obtain ⟨c, e⟩ := hh (n, k) List.mem_cons_self (by simpa using hk)
        simp only [hk, if_true]
        have e1 : cellOf env n = pure c := by
          unfold cellOf
          rw [e]
        rw [e1]
        simp only [pure_bind]
        rw [ih _ fun x hx => hh x (List.mem_cons_of_mem _ hx)]
        conv => rhs; unfold closL
        simp only [hk, if_true]
        rw [show env.cells.lookup n = some c from e]
      · have hk' : (k == NameKind.free) = false := by simpa using hk
        simp only [hk', Bool.false_eq_true, if_false, pure_bind]
        rw [ih _ fun x hx => hh x (List.mem_cons_of_mem _ hx)]
        conv => rhs; unfold closL
        simp only [hk', Bool.false_eq_true, if_false]
  unfold closureFor
  have := key scope.names [] h
  rw [bind_pure]
  first
    | exact this
    | (simp only [bind_pure] at this ⊢; exact this)
end L3
namespace L3
open PySem PySem.Spec L2
open PyProof.Rows hiding St
theorem relabel_lookup (env : Env) : ∀ (names : List (Str × NameKind)) (x : Str),
    (names.map fun (n, k) => if (k == NameKind.free && env.scope.kind == .function && env.kindOf n == some .cell) then (n, NameKind.cell) else (n, k)).lookup x =
      (names.lookup x).map fun k => if (k == NameKind.free && env.scope.kind == .function && env.kindOf x == some .cell) then NameKind.cell else k
  | [], _ => rfl
  | (n, k) :: r, x => by
    show List.lookup x ((if (k == NameKind.free && env.scope.kind == .function && env.kindOf n == some .cell) = true then (n, NameKind.cell) else (n, k)) :: _) = _
    cases hx : x == n with
    | true =>
      have e : x = n := by simpa using hx
      subst e
      by_cases hc : (k == NameKind.free && env.scope.kind == .function && env.kindOf x == some .cell) = true
      · rw [if_pos hc]; simp only [List.lookup_cons, beq_self_eq_true, Option.map_some]; rw [if_pos hc]
      · rw [if_neg hc]; simp only [List.lookup_cons, beq_self_eq_true, Option.map_some]; rw [if_neg hc]
    | false =>
      by_cases hc : (k == NameKind.free && env.scope.kind == .function && env.kindOf n == some .cell) = true
      · rw [if_pos hc]; simp only [List.lookup_cons, hx]; exact relabel_lookup env r x
      · rw [if_neg hc]; simp only [List.lookup_cons, hx]; exact relabel_lookup env r x
theorem relabel_free {env : Env} {scope : Scope} {x : Str} (h : scope.names.lookup x = some .free) : (relabel scope env).names.lookup x = some .cell ∨ (relabel scope env).names.lookup x = some .free := by
  have e : (relabel scope env).names.lookup x = _ := relabel_lookup env scope.names x
  rw [e, h]
  simp only [Option.map_some]
  split
  · exact .inl rfl
  · exact .inr rfl
theorem relabel_cell {env : Env} {scope : Scope} {x : Str} (h : (relabel scope env).names.lookup x = some .cell ∨ (relabel scope env).names.lookup x = some .free) : (x, NameKind.free) ∈ scope.names ∨ scope.names.lookup x = some .cell := by
  have e : (relabel scope env).names.lookup x = _ := relabel_lookup env scope.names x
  rw [e] at h
  cases q : scope.names.lookup x with
  | none => rw [q] at h; rcases h with h | h <;> cases h
  | some k =>
    rw [q] at h
    simp only [Option.map_some] at h
    have m := PySem.mem_of_lookup q
    by_cases hc : (k == NameKind.free && env.scope.kind == .function && env.kindOf x == some .cell) = true
    · have : k = .free := by
        simp only [Bool.and_eq_true] at hc
        simpa using hc.1.1
      subst this; exact .inl m
    · rw [if_neg hc] at h
      rcases h with h | h
      · cases h; exact .inr rfl
      · cases h; exact .inl m
theorem cells_app : ∀ (names : List (Str × NameKind)) (L : Nat) (acc : List (Str × Addr)), cellsFrom L names acc = cellsFrom L names [] ++ acc
  | [], _, _ => rfl
  | (n, k) :: r, L, acc => by
    unfold cellsFrom
    by_cases hk : (k == NameKind.cell) = true
    · rw [if_pos hk, if_pos hk, cells_app r (L + 1) ((n, L) :: acc), cells_app r (L + 1) [(n, L)], List.append_assoc]; rfl
    · rw [if_neg hk, if_neg hk]; exact cells_app r L acc
theorem cells_mem : ∀ {names : List (Str × NameKind)} {L : Nat} {x : Str} {c : Addr}, (x, c) ∈ cellsFrom L names [] → (x, NameKind.cell) ∈ names
  | [], _, _, _, h => by unfold cellsFrom at h; cases h
  | (n, k) :: r, L, x, c, h => by
    unfold cellsFrom at h
    by_cases hk : (k == NameKind.cell) = true
    · rw [if_pos hk, cells_app] at h
      have hk' : k = .cell := by simpa using hk
      subst hk'
      rcases List.mem_append.mp h with h | h
      · exact List.mem_cons_of_mem _ (cells_mem h)
      · have : (x, c) = (n, L) := by simpa using h
        cases this
        exact List.mem_cons_self
    · rw [if_neg hk] at h
      exact List.mem_cons_of_mem _ (cells_mem h)
theorem lookup_app : ∀ {l1 l2 : List (Str × Addr)} {x : Str} {c : Addr}, (l1 ++ l2).lookup x = some c → l1.lookup x = some c ∨ (l1.lookup x = none ∧ l2.lookup x = some c)
  | [], _, _, _, h => .inr ⟨rfl, h⟩
  | (n, d) :: l1, l2, x, c, h => by
    rw [List.cons_append, List.lookup_cons] at h
    rw [List.lookup_cons]
    cases hx : x == n with
    | true => rw [hx] at h; exact .inl h
    | false => rw [hx] at h; exact lookup_app h
theorem lookup_appR : ∀ {l1 l2 : List (Str × Addr)} {x : Str}, l1.lookup x = none → (l1 ++ l2).lookup x = l2.lookup x
  | [], _, _, _ => rfl
  | (n, d) :: l1, l2, x, h => by
    rw [List.lookup_cons] at h
    rw [List.cons_append, List.lookup_cons]
    cases hx : x == n with
    | true => rw [hx] at h; cases h
    | false => rw [hx] at h; exact lookup_appR h
def ccells (scope : Scope) (C : Addr) (cl : List (Str × Addr)) : List (Str × Addr) := cellsFrom (C + 1) scope.names cl
theorem ccells_split {scope : Scope} {C : Addr} {cl : List (Str × Addr)} {x : Str} {c : Addr} (h : (ccells scope C cl).lookup x = some c) : (x, c) ∈ cellsFrom (C + 1) scope.names [] ∨ cl.lookup x = some c := by
  unfold ccells at h
  rw [cells_app] at h
  rcases lookup_app h with h | h
  · exact .inl (PySem.mem_of_lookup h)
  · exact .inr h.2
theorem own_ok (names : List (Str × NameKind)) (h : Heap) {C : Addr} (e : h.objs.size = C + 1) : CellsOk (pushCells h names) (C + 1) (cellsFrom (C + 1) names []) := by
  have := cellsFrom_ok names h (C + 1) [] ⟨fun _ _ hm => (nomatch hm), List.Pairwise.nil⟩ (by rw [e]; exact Nat.le_refl _)
  rw [e] at this
  exact this
theorem own_ge {names : List (Str × NameKind)} {C : Addr} {x : Str} {c : Addr} : ∀ {L : Nat}, C ≤ L → (x, c) ∈ cellsFrom L names [] → C ≤ c := by
  induction names with
  | nil => intro L _ h; unfold cellsFrom at h; cases h
  | cons p r ih =>
    obtain ⟨n, k⟩ := p
    intro L hL h
    unfold cellsFrom at h
    by_cases hk : (k == NameKind.cell) = true
    · rw [if_pos hk, cells_app] at h
      rcases List.mem_append.mp h with h | h
      · exact ih (Nat.le_trans hL (Nat.le_succ L)) h
      · have : (x, c) = (n, L) := by simpa using h
        cases this
        exact hL
    · rw [if_neg hk] at h
      exact ih hL h
theorem own_apart {names : List (Str × NameKind)} {x y : Str} {c : Addr} : ∀ {L : Nat}, (x, c) ∈ cellsFrom L names [] → (y, c) ∈ cellsFrom L names [] → x = y := by
  induction names with
  | nil => intro L h; unfold cellsFrom at h; cases h
  | cons p r ih =>
    obtain ⟨n, k⟩ := p
    intro L h1 h2
    unfold cellsFrom at h1 h2
    by_cases hk : (k == NameKind.cell) = true
    · rw [if_pos hk, cells_app] at h1 h2
      rcases List.mem_append.mp h1 with g1 | g1 <;> rcases List.mem_append.mp h2 with g2 | g2
      · exact ih g1 g2
      · have e2 : (y, c) = (n, L) := by simpa using g2
        have ec : c = L := (Prod.mk.inj e2).2
        have := own_ge (C := L + 1) (Nat.le_refl _) g1
        rw [ec] at this
        exact absurd this (Nat.not_succ_le_self _)
      · have e1 : (x, c) = (n, L) := by simpa using g1
        have ec : c = L := (Prod.mk.inj e1).2
        have := own_ge (C := L + 1) (Nat.le_refl _) g2
        rw [ec] at this
        exact absurd this (Nat.not_succ_le_self _)
      · have e1 : (x, c) = (n, L) := by simpa using g1
        have e2 : (y, c) = (n, L) := by simpa using g2
        exact (Prod.mk.inj e1).1.trans (Prod.mk.inj e2).1.symm
    · rw [if_neg hk] at h1 h2
      exact ih h1 h2
theorem wpAny_newCompEnv {M : Model} {A : Around} {E : Value → Shared → Prop} {s : Shared} {scope : Scope} {globals : Addr} {cl : List (Str × Addr)} {qual : Str} {env : Env} {Q : Env → Shared → Prop}
    (hQ : Q (newEnv scope s.heap.objs.size globals (ccells scope s.heap.objs.size cl) qual none .none (some env) builtinsNs) { s with heap := pushCells (s.heap.push { cls := .type "dict", data := .dict #[] }) scope.names }) :
    wpAny M A (newFunctionEnv scope globals cl [] qual none .none (some env)) Q E s := by
  simp only [newFunctionEnv, Option.isSome_some, if_true]
  refine wpAny_bind (wpAny_alloc ?_)
  refine wpAny_bind (wpAny_layCells _ (fun name kind cells => by cases hkc : kind == NameKind.cell <;> simp [hkc]) _ _ _ _ ?_)
  rw [show ({ s with heap := s.heap.push { cls := .type "dict", data := .dict #[] } } : Shared).heap.objs.size = s.heap.objs.size + 1 from Heap.size_push ..]
  rw [List.forIn_nil]
  exact wpAny_bind (wpAny_pure (wpAny_pure hQ))
structure CompSc (X : Cx) (scope : Scope) (Nc : List Str) (fr : List (Option Nat)) : Prop where
  kind : scope.kind = .function
  cells : ∀ x ∈ scope.names, x.2 = .cell → scope.names.lookup x.1 = some .cell
  names : ∀ x ∈ scope.names, x.2 = .local → scope.names.lookup x.1 = some .local
  free : ∀ x ∈ scope.names, x.2 = .free → X.env.kindOf x.1 = some .cell ∨ X.env.kindOf x.1 = some .free
  len : fr.length = Nc.length
  map : ∀ (i j : Nat) (x : Str), Nc[i]? = some x → fr[i]? = some (some j) → X.N[j]? = some x ∧ scope.names.lookup x = some .free ∧ (X.env.kindOf x = some .cell ∨ X.env.kindOf x = some .free)
def σC (fr : List (Option Nat)) (σ : St) : St := fr.map fun o => o.bind fun j => (σ[j]?).join
def cxC (X : Cx) (scope : Scope) (Nc : List Str) (C : Addr) (s : Shared) (H : Hp) (ex : List Addr) : Cx :=
  { X with N := Nc, s₀ := s, H₀ := H, env := compEnvC scope (ccells scope C (closL X.env.cells scope.names [])) C X.env, outer := X.stack, stack := X.stack, ex := ex, fn := fun x => scope.names.lookup x == some .cell, pn := [], xe := fun _ _ => False }
def tComp (wi : TI) (fr : List (Option Nat)) (g : TG) (c : TT) (te : TE) : TE := fun σ H Q => wi σ H fun J H1 => ∀ l, H1 l = none →
  ∃ W : Nat → Nat → L2.St → Hp → Prop, (∃ m, W 0 m (σC fr σ) (upd H1 l (.lst []))) ∧ ∀ i m σ H, W i m σ H →
    (J.stop i H ∧ Q (.ref l) H) ∨ (J.go i H ∧ ∃ N : L2.St → Hp → Prop, (∀ σ' H', N σ' H' → ∃ m', m' < m ∧ W (i + 1) m' σ' H') ∧ ∀ x H', J.yld i H x H' →
      g x σ H' fun σ2 H2 => c σ2 H2 fun b H3 => if b = true then te σ2 H3 fun y H4 => ∃ ys, H4 l = some (.lst ys) ∧ ys.length < sizeLine ∧ N σ2 (upd H4 l (.lst (ys ++ [y]))) else N σ2 H3)
def PTs (X : Cx) (ifs : List Expr) (t : TT) : Prop :=
  ∀ (pins : List (Addr × Obj)) (s : Shared) (σ : St) (H : Hp) (Q : Bool → Hp → Prop), Inv X pins σ H s → t σ H Q →
    wpAny (model X.prog X.w) X.A (forIn ifs true fun c r => if r = true then do let ok ← isTrue c X.env (eval c X.env); pure (ForInStep.yield ok) else pure (ForInStep.yield r)) (TP X pins σ Q) X.xe s
def tTrue : TT := fun _ H Q => Q true H
theorem pts_nil {X : Cx} : PTs X [] tTrue := fun _ _ _ H _ I h => wpAny_tests_nil ⟨H, I, h⟩
section
variable {X : Cx} {scope : Scope} {Nc : List Str} {fr : List (Option Nat)} {pins : List (Addr × Obj)} {σ : St} {H : Hp} {s : Shared}
theorem cxC_ok {C : Addr} {fp : List Addr} (S : CompSc X scope Nc fr) (I : Inv X pins σ H s) (hC : C = s.heap.objs.size) (hf : ∀ b ∈ fp, FpOk X pins H b) (hlt : ∀ b ∈ fp, b < s.heap.objs.size) (hnc : ∀ b ∈ fp, ∀ x c, X.env.cells.lookup x = some c → c ≠ b) :
    (cxC X scope Nc C s H fp).Ok where
  mod := I.ok.mod
  kind := S.kind
  glob := I.ok.glob
  blt := I.ok.blt
  above := Nat.le_of_eq hC.symm
  inj := fun x y c h1 h2 => by
    have low : ∀ {z}, (closL X.env.cells scope.names []).lookup z = some c → c < s.heap.objs.size := fun {z} hz => by
      obtain ⟨v, q⟩ := I.cell z c (closL_spec _ [] (fun _ _ e => by cases e) z c hz)
      exact q.lt
    rcases ccells_split h1 with h1 | h1 <;> rcases ccells_split h2 with h2 | h2
    · exact own_apart h1 h2
    · have a := own_ge (C := C + 1) (Nat.le_refl _) h1
      have b : c < C := by rw [hC]; exact low h2
      exact absurd a (Nat.not_le_of_gt (Nat.lt_succ_of_lt b))
    · have a := own_ge (C := C + 1) (Nat.le_refl _) h2
      have b : c < C := by rw [hC]; exact low h1
      exact absurd a (Nat.not_le_of_gt (Nat.lt_succ_of_lt b))
    · exact I.ok.inj x y c (closL_spec _ [] (fun _ _ e => by cases e) x c h1) (closL_spec _ [] (fun _ _ e => by cases e) y c h2)
  has := fun x hx => by
    rcases relabel_cell hx with m | m
    · obtain ⟨c, e⟩ := closL_has scope.names [] (I.ok.has x (S.free _ m rfl)) (.inl m)
      exact Option.isSome_iff_exists.mp (PySem.W.cellsFrom_some _ _ _ (.inr (by rw [e]; rfl)))
    · exact Option.isSome_iff_exists.mp (PySem.W.cellsFrom_some _ _ _ (.inl m))
  cab := fun x c hf h => by
    have hl : scope.names.lookup x = some .cell := by
      have : (scope.names.lookup x == some .cell) = true := hf
      simpa using this
    obtain ⟨c', e⟩ := Option.isSome_iff_exists.mp (PySem.W.cellsFrom_some (x := x) scope.names (C + 1) [] (.inl hl))
    have h' : (cellsFrom (C + 1) scope.names [] ++ closL X.env.cells scope.names []).lookup x = some c := by
      rw [← cells_app]; exact h
    rcases lookup_app h' with q | q
    · have := own_ge (C := C + 1) (Nat.le_refl _) (PySem.mem_of_lookup q)
      show s.heap.objs.size ≤ c
      rw [← hC]; exact Nat.le_of_succ_le this
    · rw [q.1] at e; cases e
  hd := I.ok.hd
  frames := I.ok.frames
  stk := .inl rfl
  exf := fun b hb => ⟨by rw [show (cxC X scope Nc C s H fp).env.locals = s.heap.objs.size from hC]; exact Nat.ne_of_lt (hlt b hb), fun x c h => by
    rcases ccells_split h with h | h
    · have a := own_ge (C := C + 1) (Nat.le_refl _) h
      have b' : b < C := by rw [hC]; exact hlt b hb
      exact Nat.ne_of_gt (Nat.lt_of_lt_of_le b' (Nat.le_of_succ_le a))
    · exact hnc b hb x c (closL_spec _ [] (fun _ _ e => by cases e) x c h)⟩
  bs := I.bs
  bsz := Nat.le_trans I.ok.bsz I.sz
  noex := fun b o e hb => by
    have hn := (hf b hb).2.2.2.1
    rcases hn with hn | hn
    · exact I.ok.noex b o e hn
    · exact absurd (Heap.lt_size (I.ok.bs b o e).1) (Nat.not_lt.mpr hn)
  exfs := fun b hb z => by
    have q := I.stkSub b z
    rcases List.mem_cons.mp q with q | q
    · exact (hf b hb).2.1 q
    · exact (hf b hb).2.2.1 q
  funs := I.stack
  frf := fun b hb => I.stkFree b hb
theorem σC_get {i : Nat} {v : V} (h : (σC fr σ)[i]? = some (some v)) : ∃ j, fr[i]? = some (some j) ∧ σ[j]? = some (some v) := by
  unfold σC at h
  rw [List.getElem?_map] at h
  cases q : fr[i]? with
  | none => rw [q] at h; cases h
  | some o =>
    rw [q] at h
    cases o with
    | none => simp at h
    | some j =>
      simp only [Option.map_some, Option.some.injEq, Option.bind_some] at h
      refine ⟨j, rfl, ?_⟩
      cases r : σ[j]? with
      | none => rw [r] at h; cases h
      | some u => rw [r] at h; simp at h; rw [h]
theorem inv_comp {s' : Shared} {h' : Heap} {C : Addr} {fp : List Addr} {t' : Nat} (S : CompSc X scope Nc fr) (I : Inv X pins σ H s) (hC : C = s.heap.objs.size) (ok : (cxC X scope Nc C s H fp).Ok) (hfr : ∀ b ∈ fp, H b = none)
    (k : ∀ b o, s.heap.get? b = some o → h'.get? b = some o) (hn : h'.Ns C (fun _ => none)) (hcs : ∀ x c, (x, c) ∈ cellsFrom (C + 1) scope.names [] → h'.IsCell c none) : Inv (cxC X scope Nc C s H fp) [] (σC fr σ) H { s with heap := h', toks := t' } where
  ok := ok
  os := rfl
  bare := I.bare
  base := Un.kept k
  loc := ⟨_, hn, fun i x v h1 h2 h3 => by
    obtain ⟨j, q1, q2⟩ := σC_get h2
    obtain ⟨n1, n2, n3⟩ := S.map i j x h1 q1
    obtain ⟨m, hm, hl⟩ := I.loc
    have vis : Vis X.env.scope x := by
      rcases n3 with z | z
      · exact .inr (.inl z)
      · exact .inr (.inr z)
    obtain ⟨u, r, lk⟩ := hl j x v n1 q2 vis
    refine ⟨u, r, ?_⟩
    rcases lk with ⟨z, _⟩ | ⟨z, c, e, ic⟩
    · rcases n3 with y | y
      · rw [y] at z; cases z
      · rw [y] at z; cases z
    · refine .inr ⟨relabel_free n2, ?_⟩
      obtain ⟨c', e'⟩ := closL_has scope.names [] ⟨c, e⟩ (.inl (PySem.mem_of_lookup n2))
      have e2 := closL_spec _ [] (fun _ _ e => by cases e) x c' e'
      rw [e] at e2; cases e2
      refine ⟨c, ?_, ic.keeps k⟩
      show (ccells scope C (closL X.env.cells scope.names [])).lookup x = some c
      unfold ccells
      rw [cells_app, lookup_appR ?_]
      · exact e'
      · cases q : (cellsFrom (C + 1) scope.names []).lookup x with
        | none => rfl
        | some c2 =>
          have := S.cells _ (cells_mem (PySem.mem_of_lookup q)) rfl
          rw [n2] at this; cases this⟩
  cell := fun x c h => by
    rcases ccells_split h with h | h
    · exact ⟨_, hcs x c h⟩
    obtain ⟨v, q⟩ := I.cell x c (closL_spec _ [] (fun _ _ e => by cases e) x c h)
    exact ⟨v, q.keeps k⟩
  free := by show H C = none; rw [hC]; exact I.hok.fresh (Nat.le_refl _)
  freeC := fun x c h => by
    rcases ccells_split h with h | h
    · have a := own_ge (C := C + 1) (Nat.le_refl _) h
      exact I.hok.fresh (by rw [← hC]; exact Nat.le_of_succ_le a)
    · exact I.freeC x c (closL_spec _ [] (fun _ _ e => by cases e) x c h)
  pin := fun p hp => by cases hp
  hok := I.hok.kept k
  len := by unfold σC; rw [List.length_map]; exact S.len
theorem Inv.forget {C : Addr} {h' : Heap} (I : Inv X pins σ H s) (f : FpOk X pins H C) (hs : Heap.SameBut C s.heap h') : Inv X pins σ H { s with heap := h' } := by
  refine I.call' (s' := { s with heap := h' }) (ch := [C]) rfl ?_ ?_ I.bare fun b hb => ?_
  · have ne : ∀ b, b ∉ [C] → b ≠ C := fun b hb z => hb (by simp [z])
    exact { keep := fun b o q _ _ hx => (hs.2 b (ne b hx)).trans q, slot := fun b o q _ _ hx => ⟨o.slots, (hs.2 b (ne b hx)).trans q⟩, free := fun b o q n _ => n, there := fun b o q hx => ⟨o, (hs.2 b (ne b hx)).trans q⟩, tups := fun _ _ e => e, frzs := fun _ _ _ e => e, tbls := fun b ps e => ⟨#[], by rw [e]; simp⟩ }
  · intro a o q
    have na : ∀ b u, H b = some u → b ≠ C := fun b u q z => by rw [z, f.1] at q; cases q
    refine (I.hok a o q).stay (fun b u hb e => ?_) (fun _ q => q) fun _ _ q => q
    rw [hs.2 b ?_]
    · exact e
    · rcases hb with rfl | hb
      · exact na _ _ q
      · exact na _ _ hb
  · have : b = C := by simpa using hb
    subst this
    exact ⟨f.2.2.2.1, f.2.1, f.2.2.2.2.1, f.2.2.2.2.2⟩
theorem comp_block {elt tg iter : Expr} {ifs : List Expr} {wi : TI} {g : TG} {c : TT} {te : TE} {pos : Pos} {Q : VK} {RR : Value → Addr → Result → Shared → Prop} (hx : X.xe = fun _ _ => False) (hc : X.calm = true) (S : CompSc X scope Nc fr) (hi : PI X tg iter wi)
    (hg : ∀ C s H ex, PG (cxC X scope Nc C s H ex) tg g) (ht : ∀ C s H ex, PTs (cxC X scope Nc C s H ex) ifs c) (he : ∀ C s H ex, PE (cxC X scope Nc C s H ex) elt te) (I : Inv X pins σ H s) (h : tComp wi fr g c te σ H Q)
    (fin : ∀ (l C : Addr) (s6 : Shared) (H5 : Hp) (m : Str → Option Value), s6.heap.Ns C m → FpOk X pins H5 C → Inv X pins σ H5 s6 → Q (.ref l) H5 → RR (.ref l) C (.ok .next) s6) :
    wpAny (model X.prog X.w) X.A (eval iter X.env) (fun x s₁ => wpAny (model X.prog X.w) X.A (pyIter x) (fun it s₂ => wpAny (model X.prog X.w) X.A (newList []) (fun acc s₃ =>
      wpAny (model X.prog X.w) X.A (newFunctionEnv scope X.env.globals (closL X.env.cells scope.names []) [] X.env.qual none .none (some X.env)) (fun cenv s₄ =>
        codeAny (model X.prog X.w) X.A (.compStart (.ListComp elt [⟨tg, iter, ifs, 0⟩] scope pos) 0 it acc { cenv with scope := relabel scope X.env }) (RR acc cenv.locals) s₄) X.xe s₃) X.xe s₂) X.xe s₁) X.xe s := by
  refine thn (hi pins s σ H _ I h) fun v s1 h1 => thn h1 fun itv s2 h2 => ?_
  obtain ⟨it, fp, tn, J, H2, e, I2, T, st2, f2, hR⟩ := h2
  subst e
  refine wpAny_newList ?_ (Nat.zero_le _)
  have I3 := I2.lnew (t' := s2.toks) (its := []) (ys := []) .nil (Nat.zero_le _)
  generalize e3 : ({ s2 with heap := s2.heap.push { cls := .type "list", data := .seq ([] : List Value).toArray } } : Shared) = s3
  have I3 : Inv X pins σ (upd H2 s2.heap.objs.size (.lst [])) s3 := by rw [← e3]; exact I3
  have ml : s2.heap.objs.size < s3.heap.objs.size := by rw [← e3]; show _ < (s2.heap.push _).objs.size; rw [Heap.size_push]; omega
  have k3 : ∀ b o, s2.heap.get? b = some o → s3.heap.get? b = some o := fun b o q => by rw [← e3]; exact Heap.get?_push_of_some _ q
  obtain ⟨W, ⟨m0, w0⟩, turn⟩ := hR s2.heap.objs.size (I2.hok.fresh (Nat.le_refl _))
  refine wpAny_newCompEnv ?_
  have hn : (pushCells (s3.heap.push { cls := .type "dict", data := .dict #[] }) scope.names).Ns s3.heap.objs.size (fun _ => none) := (Heap.Ns.new s3.heap (.type "dict")).keeps (pushCells_keeps _ _)
  have hcs : ∀ x c, (x, c) ∈ cellsFrom (s3.heap.objs.size + 1) scope.names [] → (pushCells (s3.heap.push { cls := .type "dict", data := .dict #[] }) scope.names).IsCell c none := fun x c h => ((own_ok scope.names _ (Heap.size_push ..)).empty x c h).1
  have k4 : ∀ b o, s3.heap.get? b = some o → (pushCells (s3.heap.push { cls := .type "dict", data := .dict #[] }) scope.names).get? b = some o := fun b o q => pushCells_keeps _ _ b o (Heap.get?_push_of_some _ q)
  generalize (pushCells (s3.heap.push { cls := .type "dict", data := .dict #[] }) scope.names) = h' at hn hcs k4 ⊢
  have hobj : ∀ b ∈ fp, ∃ o, s2.heap.get? b = some o ∧ ∀ v, o.data ≠ .cell v := T.obj _ _ st2
  have hlt2 : ∀ b ∈ fp, b < s3.heap.objs.size := fun b hb => let ⟨o, q, _⟩ := hobj b hb; Heap.lt_size (k3 b o q)
  have hnl : ∀ b ∈ fp, b ≠ s2.heap.objs.size := fun b hb => by
    obtain ⟨o, q, _⟩ := hobj b hb
    exact Nat.ne_of_lt (Heap.lt_size q)
  have f3 : ∀ b ∈ fp, FpOk X pins (upd H2 s2.heap.objs.size (.lst [])) b := fun b hb => ⟨by rw [upd_ne (hnl b hb)]; exact (f2 b hb).1, (f2 b hb).2⟩
  have ok := cxC_ok (C := s3.heap.objs.size) (fp := fp) S I3 rfl f3 hlt2 fun b hb => (f2 b hb).2.2.2.2.1
  have I4 : Inv (cxC X scope Nc s3.heap.objs.size s3 (upd H2 s2.heap.objs.size (.lst [])) fp) [] (σC fr σ) (upd H2 s2.heap.objs.size (.lst [])) { s3 with heap := h', toks := s3.toks } :=
    inv_comp (s' := s3) S I3 rfl ok (fun b hb => (f3 b hb).1) k4 hn hcs
  have st4 : tn 0 h' := T.keep _ _ _ st2 fun b _ o q => k4 b o (k3 b o q)
  generalize hXc : cxC X scope Nc s3.heap.objs.size s3 (upd H2 s2.heap.objs.size (.lst [])) fp = Xc at I4
  have hgc : PG Xc tg g := by rw [← hXc]; exact hg _ _ _ _
  have htc : PTs Xc ifs c := by rw [← hXc]; exact ht _ _ _ _
  have hec : PE Xc elt te := by rw [← hXc]; exact he _ _ _ _
  have xP : Xc.prog = X.prog := by rw [← hXc]; rfl
  have xW : Xc.w = X.w := by rw [← hXc]; rfl
  have xK : Xc.K = X.K := by rw [← hXc]; rfl
  have xc : Xc.calm = true := by rw [← hXc]; exact hc
  have xA : Xc.A = X.A := by rw [← hXc]; rfl
  have xE : Xc.env = compEnvC scope (ccells scope s3.heap.objs.size (closL X.env.cells scope.names [])) s3.heap.objs.size X.env := by rw [← hXc]; rfl
  have xx : Xc.xe = fun _ _ => False := by rw [← hXc]; rfl
  have fpc : ∀ {H' : Hp}, (∀ b ∈ fp, H' b = none) → ∀ b ∈ fp, FpOk Xc [] H' b := fun {H'} hn b hb => by
    rw [← hXc]
    refine ⟨hn b hb, Nat.ne_of_lt (hlt2 b hb), ok.exfs b hb, .inl hb, (ok.exf b hb).2, fun p hp => by cases hp⟩
  have loop : codeAny (model X.prog X.w) X.A (.compLoop (.ListComp elt [⟨tg, iter, ifs, 0⟩] scope pos) 0 (.ref it) (.ref s2.heap.objs.size) (compEnvC scope (ccells scope s3.heap.objs.size (closL X.env.cells scope.names [])) s3.heap.objs.size X.env))
      (RR (.ref s2.heap.objs.size) s3.heap.objs.size) { s3 with heap := h', toks := s3.toks } := by
    refine compLoop_go (fun n s' => ∃ i σ' H', Inv Xc [] σ' H' s' ∧ tn i s'.heap ∧ (∀ b ∈ fp, H' b = none) ∧ W i n σ' H') ?_ m0 ⟨0, _, _, I4, st4, fun b hb => (f3 b hb).1, w0⟩
    rintro n s5 ⟨i, σ5, H5, I5, st5, fr5, w5⟩
    rcases turn i n σ5 H5 w5 with ⟨stop, qn⟩ | ⟨go, N, hN, step⟩
    · have q := T.done Xc xP xW xK xc i [] s5 σ5 H5 (fun _ _ => False) I5 (fpc fr5) st5 stop
      rw [xA] at q
      refine thn q fun r s6 ⟨hr, I6⟩ => ?_
      subst hr
      obtain ⟨m, hm, _⟩ := I6.loc
      rw [xE] at hm
      have free6 : H5 s3.heap.objs.size = none := by have := I6.free; rw [xE] at this; exact this
      have un6 : Un (frs X.stack) fp (upd H2 s2.heap.objs.size (.lst [])) H5 s3.heap s6.heap := by have := I6.base; rw [← hXc] at this; exact this
      have os6 : s6.os = s3.os := by have := I6.os; rw [← hXc] at this; exact this
      have hok6 : HOk X.prog X.w H5 s6.heap := by have := I6.hok; rw [xP, xW] at this; exact this
      have J := I3.call' (s' := s6) (ch := fp) os6 un6 hok6 I6.bare fun b hb => ⟨(f3 b hb).2.2.2.1, (f3 b hb).2.1, (f3 b hb).2.2.2.2.1, (f3 b hb).2.2.2.2.2⟩
      exact fin _ _ s6 H5 m hm (I3.fpOk (Nat.le_refl _) free6) J qn
    · have q := T.item Xc xP xW xK xc i [] s5 σ5 H5 (fun _ _ => False) I5 (fpc fr5) st5 go
      rw [xA] at q
      refine thn q fun r s6 ⟨u, hr, h6⟩ => ?_
      subst hr
      refine thn h6 fun _ s7 ⟨x, H7, I7, r7, y7, st7, fr7⟩ => ?_
      have I7' := I7.pinned (fpc fr7) (T.obj _ _ st7)
      have q8 := hgc _ s7 σ5 H7 x u _ I7' r7 (step x H7 y7)
      rw [xP, xW, xA, xE, xx] at q8
      refine thn q8 fun _ s8 ⟨σ8, H8, I8, q8⟩ => ?_
      have q9 := htc _ s8 σ8 H8 _ I8 q8
      rw [xP, xW, xA, xE, xx] at q9
      refine thn q9 fun b s9 ⟨H9, I9, q9⟩ => ?_
      have again : ∀ {H' : Hp} {s' : Shared}, Inv Xc ([] ++ pinsAt fp s7.heap) σ8 H' s' → N σ8 H' → ∃ m, m < n ∧ ∃ i σ' H', Inv Xc [] σ' H' s' ∧ tn i s'.heap ∧ (∀ b ∈ fp, H' b = none) ∧ W i m σ' H' := fun {H' s'} J nn => by
        obtain ⟨m', hm, w7⟩ := hN σ8 H' nn
        refine ⟨m', hm, i + 1, σ8, H', J.unpinned, T.keep _ _ _ st7 fun b hb o e => (J.pin (b, o) (List.mem_append_right _ (List.mem_append_right _ (mem_pinsAt hb e)))).1, fun b hb => ?_, w7⟩
        obtain ⟨o, e, d⟩ := T.obj _ _ st7 b hb
        exact (J.pin (b, o) (List.mem_append_right _ (List.mem_append_right _ (mem_pinsAt hb e)))).2.1
      cases b with
      | false => exact again I9 q9
      | true =>
        have qe := hec _ s9 σ8 H9 _ I9 q9
        rw [xP, xW, xA, xE, xx] at qe
        refine thn qe fun y s10 ⟨vy, H10, I10, ry, ys, hy, hlt, qN⟩ => ?_
        have qa := mt_append (X := Xc) _ s10 σ8 H10 (.ref s2.heap.objs.size) [vy] (.ref s2.heap.objs.size) [y] (fun _ H' => N σ8 H') I10 rfl (.cons ry .nil) ⟨_, ys, vy, rfl, rfl, hy, hlt, qN⟩
        rw [xP, xW, xA, xx] at qa
        exact thn qa fun _ s11 ⟨_, H11, I11, _, q11⟩ => again I11 q11
  refine codeAny_compStart_list ?_ ?_
  · exact loop
  · exact T.self _ 0 _ _ _ st4 loop
theorem pe_comp {elt tg iter : Expr} {ifs : List Expr} {wi : TI} {g : TG} {c : TT} {te : TE} {pos : Pos} (hx : X.xe = fun _ _ => False) (hc : X.calm = true) (S : CompSc X scope Nc fr) (hi : PI X tg iter wi)
    (hg : ∀ C s H ex, PG (cxC X scope Nc C s H ex) tg g) (ht : ∀ C s H ex, PTs (cxC X scope Nc C s H ex) ifs c) (he : ∀ C s H ex, PE (cxC X scope Nc C s H ex) elt te)
    (hs : ∀ x, foldedSetIterable iter X.env x = pure x := by intro _; rfl) : PE X (.ListComp elt [⟨tg, iter, ifs, 0⟩] scope pos) (tComp wi fr g c te) := by
  intro pins s σ H Q I h
  rw [eval_ListComp]
  have hcl : closureFor scope X.env = pure (closL X.env.cells scope.names []) := closureFor_eq fun x hx hk => I.ok.has x.1 (S.free x hx hk)
  refine wpAny_comprehension_free rfl hs hcl S.kind S.names ?_
  exact comp_block (RR := fun acc C => compPost (model X.prog X.w) X.A X.xe none (EP X pins σ Q) acc C) hx hc S hi hg ht he I h fun l C s6 H5 m hm f J q => ⟨m, hm, fun h'' hs'' => ⟨.ref l, H5, Inv.forget J f hs'', rfl, q⟩⟩
theorem ps_setC {elt tg iter : Expr} {ifs : List Expr} {wi : TI} {g : TG} {c : TT} {te : TE} {pos pos' spos : Pos} {i : Nat} {x : Str} (hx : X.xe = fun _ _ => False) (hc : X.calm = true) (S : CompSc X scope Nc fr) (hi : PI X tg iter wi)
    (hg : ∀ C s H ex, PG (cxC X scope Nc C s H ex) tg g) (ht : ∀ C s H ex, PTs (cxC X scope Nc C s H ex) ifs c) (he : ∀ C s H ex, PE (cxC X scope Nc C s H ex) elt te) (hN : X.N.Nodup) (hni : X.N[i]? = some x) (hl : Loc X.env.scope x) (hf : X.fn x = true ∨ X.env.scope.names.lookup x = some .local)
    (hsw : swapsWith (.ListComp elt [⟨tg, iter, ifs, 0⟩] scope pos) (some (.Name x pos')) spos.line X.env = pure true)
    (hs : ∀ x, foldedSetIterable iter X.env x = pure x := by intro _; rfl) : PS X (.Assign [.Name x pos'] (.ListComp elt [⟨tg, iter, ifs, 0⟩] scope pos) spos) (tAsg (tComp wi fr g c te) (gName i)) := by
  intro pins s σ H D I h
  have hcl : closureFor scope X.env = pure (closL X.env.cells scope.names []) := closureFor_eq fun x hx hk => I.ok.has x.1 (S.free x hx hk)
  rw [exec_Assign_Name_used _ _ _ _ hsw]
  refine wpAny_bind (wpAny_standAt (wpAny_bind ?_))
  show wpAny _ X.A (do let _ ← comprehension (.ListComp elt [⟨tg, iter, ifs, 0⟩] scope pos) scope X.env _ (newList []) false (eval iter X.env) (some (assign (.Name x pos') X.env))) _ _ s
  refine wpAny_bind (wpAny_mono (wpAny_comprehension_free (use := some (assign (.Name x pos') X.env)) (Q := fun _ s' => SP X pins D .next s') rfl hs hcl S.kind S.names
    (comp_block (RR := fun acc C => compPost (model X.prog X.w) X.A X.xe (some (assign (.Name x pos') X.env)) (fun _ s' => SP X pins D .next s') acc C) hx hc S hi hg ht he I h fun l C s6 H5 m hm f J q => ?_)) (fun _ s' hq => wpAny_pure (wpAny_pure hq)) fun _ _ e => e)
  show wpAny _ X.A (assign (.Name x pos') X.env (.ref l)) _ _ _
  refine wpAny_assign_Name (store_ok2 J hN hni hl (show RelV (.ref l) (.ref l) from rfl) (fun s7 J7 hch => ?_) hf)
  obtain ⟨a, hsame, ha⟩ := hch
  have hCa : C ≠ a := by
    rcases ha with rfl | ha
    · exact f.2.1
    · exact fun z => f.2.2.2.2.1 x a ha z.symm
  refine ⟨m, hm.sameBut hsame hCa, fun h'' hs'' => ⟨σ.set i (some (.ref l)), H5, Inv.forget J7 f hs'', q⟩⟩
end
end L3
namespace L3
open PySem PySem.Spec L2
open PyProof.Rows hiding St
inductive D where
  | non | bl (b : Bool) | int (i : Int) | str (x : Str) | ty (n : String) | ref (n : Nat) | lst (xs : List D) | tup (xs : List D)
inductive Cell where
  | lst (xs : List D) | ins (C : Addr) (fs : List (Str × D)) | dead
abbrev Store := List Cell
abbrev DEnv := List (Option D)
mutual
def Rep (α : List (Option Addr)) (H : Hp) : D → V → Prop
  | .non, v => v = .non
  | .bl b, v => v = .bl b
  | .int i, v => v = .int i
  | .str x, v => v = .str x
  | .ty n, v => v = .ty n
  | .ref n, v => α[n]? = some none ∨ ∃ a, α[n]? = some (some a) ∧ v = .ref a
  | .lst xs, v => ∃ a vs, v = .ref a ∧ some a ∉ α ∧ Rd H a (.lst vs) ∧ Reps α H xs vs
  | .tup xs, v => ∃ a vs, v = .ref a ∧ some a ∉ α ∧ H a = some (.tup vs) ∧ Reps α H xs vs
def Reps (α : List (Option Addr)) (H : Hp) : List D → List V → Prop
  | [], vs => vs = []
  | d :: ds, vs => ∃ v r, vs = v :: r ∧ Rep α H d v ∧ Reps α H ds r
end
theorem reps_paired {α : List (Option Addr)} {H : Hp} : ∀ {ds : List D} {vs : List V}, Reps α H ds vs ↔ Paired (Rep α H) ds vs
  | [], vs => by
    unfold Reps
    constructor
    · rintro rfl; exact .nil
    · intro h; cases h; rfl
  | d :: ds, vs => by
    unfold Reps
    constructor
    · rintro ⟨v, r, rfl, h1, h2⟩; exact .cons h1 (reps_paired.mp h2)
    · intro h; cases h with | cons h1 h2 => exact ⟨_, _, rfl, h1, reps_paired.mpr h2⟩
section
variable {α : List (Option Addr)} {H : Hp}
theorem Reps.length {ds : List D} {vs : List V} (h : Reps α H ds vs) : ds.length = vs.length := Paired.length (reps_paired.mp h)
theorem paired_get {A B : Type} {F : A → B → Prop} : ∀ {xs : List A} {ys : List B} {i : Nat} {x : A}, Paired F xs ys → xs[i]? = some x → ∃ y, ys[i]? = some y ∧ F x y
  | _, _, _, _, .nil, e => by simp at e
  | _, _, 0, _, .cons r _, e => by simp at e; subst e; exact ⟨_, rfl, r⟩
  | _, _, i + 1, x, .cons _ t, e => by
    obtain ⟨u, h1, h2⟩ := paired_get (i := i) (x := x) t (by simpa using e)
    exact ⟨u, by simpa using h1, h2⟩
theorem paired_append {A B : Type} {F : A → B → Prop} : ∀ {xs xs' : List A} {ys ys' : List B}, Paired F xs ys → Paired F xs' ys' → Paired F (xs ++ xs') (ys ++ ys')
  | _, _, _, _, .nil, s => s
  | _, _, _, _, .cons r t, s => .cons r (paired_append t s)
theorem paired_set {A B : Type} {F : A → B → Prop} {x : A} {y : B} (r : F x y) : ∀ {xs : List A} {ys : List B} (i : Nat), Paired F xs ys → Paired F (xs.set i x) (ys.set i y)
  | _, _, _, .nil => .nil
  | _, _, 0, .cons _ t => .cons r t
  | _, _, i + 1, .cons q t => .cons q (paired_set r i t)
theorem paired_flat {A B : Type} {F : A → B → Prop} {xs : List A} {ys : List B} (h : Paired F xs ys) : ∀ k : Nat, Paired F (List.replicate k xs).flatten (List.replicate k ys).flatten
  | 0 => .nil
  | k + 1 => by
    rw [List.replicate_succ, List.replicate_succ, List.flatten_cons, List.flatten_cons]
    exact paired_append h (paired_flat h k)
theorem Reps.get {ds : List D} {vs : List V} {i : Nat} {d : D} (h : Reps α H ds vs) (e : ds[i]? = some d) : ∃ v, vs[i]? = some v ∧ Rep α H d v := paired_get (reps_paired.mp h) e
end
structure Step (α : List (Option Addr)) (H : Hp) (α' : List (Option Addr)) (H' : Hp) : Prop where
  ext : ∀ b o, some b ∉ α → H b = some o → H' b = some o
  pre : ∀ (n : Nat) (x : Option Addr), α[n]? = some x → α'[n]? = some x ∨ α'[n]? = some none
  new : ∀ b, some b ∈ α' → some b ∉ α → H b = none
theorem Step.refl {α : List (Option Addr)} {H : Hp} : Step α H α H := ⟨fun _ _ _ h => h, fun _ _ h => .inl h, fun _ h n => absurd h n⟩
theorem Step.trans {α α1 α2 : List (Option Addr)} {H H1 H2 : Hp} (a : Step α H α1 H1) (b : Step α1 H1 α2 H2) : Step α H α2 H2 where
  ext := fun c o hc e => b.ext c o (fun z => by rw [a.new c z hc] at e; cases e) (a.ext c o hc e)
  pre := fun n x e => by
    rcases a.pre n x e with h | h
    · exact b.pre n x h
    · rcases b.pre n none h with h' | h'
      · exact .inr h'
      · exact .inr h'
  new := fun c hc n => by
    by_cases h1 : some c ∈ α1
    · exact a.new c h1 n
    · have := b.new c hc h1
      cases q : H c with
      | none => rfl
      | some o => rw [a.ext c o n q] at this; cases this
theorem Step.laid {α : List (Option Addr)} {H : Hp} {p : Addr} {o : HO} (h : H p = none) : Step α H α (upd H p o) :=
  ⟨fun b u _ e => by rw [upd_ne (ne_of_none e h)]; exact e, fun _ _ h => .inl h, fun _ h n => absurd h n⟩
theorem Step.cell {α : List (Option Addr)} {H : Hp} {p : Addr} {o : HO} (h : H p = none) : Step α H (α ++ [some p]) (upd H p o) :=
  ⟨fun b u _ e => by rw [upd_ne (ne_of_none e h)]; exact e, fun n x e => .inl (by rw [List.getElem?_append_left (List.getElem?_eq_some_iff.mp e).1]; exact e), fun b hb n => by
    rcases List.mem_append.mp hb with z | z
    · exact absurd z n
    · have : b = p := by simpa using z
      subst this; exact h⟩
theorem Step.write {α : List (Option Addr)} {H : Hp} {p : Addr} {o : HO} (h : some p ∈ α) : Step α H α (upd H p o) :=
  ⟨fun b u n e => by rw [upd_ne (fun z => by subst z; exact n h)]; exact e, fun _ _ h => .inl h, fun _ h n => absurd h n⟩
theorem Step.frz {α : List (Option Addr)} {H : Hp} {n : Nat} : Step α H (α.set n none) H :=
  ⟨fun _ _ _ h => h, fun m x e => by
    by_cases hm : n = m
    · subst hm; exact .inr (List.getElem?_set_self (List.getElem?_eq_some_iff.mp e).1)
    · exact .inl (by rw [List.getElem?_set_ne hm]; exact e), fun b hb hn => by
    rcases List.mem_or_eq_of_mem_set hb with z | z
    · exact absurd z hn
    · cases z⟩
mutual
theorem Rep.step {α α' : List (Option Addr)} {H H' : Hp} (s : Step α H α' H') : ∀ {d : D} {v : V}, Rep α H d v → Rep α' H' d v
  | .non, _, h => by unfold Rep at h ⊢; exact h
  | .bl _, _, h => by unfold Rep at h ⊢; exact h
  | .int _, _, h => by unfold Rep at h ⊢; exact h
  | .str _, _, h => by unfold Rep at h ⊢; exact h
  | .ty _, _, h => by unfold Rep at h ⊢; exact h
  | .ref n, _, h => by
    unfold Rep at h ⊢
    rcases h with h | ⟨a, e, r⟩
    · rcases s.pre _ _ h with z | z <;> exact .inl z
    · rcases s.pre _ _ e with z | z
      · exact .inr ⟨a, z, r⟩
      · exact .inl z
  | .lst xs, _, h => by
    unfold Rep at h ⊢
    obtain ⟨a, vs, e, n, r, q⟩ := h
    refine ⟨a, vs, e, fun z => ?_, ?_, Reps.step s q⟩
    · have := s.new a z n
      rcases r with r | ⟨o, r⟩ <;> (rw [this] at r; cases r)
    · rcases r with r | ⟨o, r⟩
      · exact .inl (s.ext _ _ n r)
      · exact .inr ⟨o, s.ext _ _ n r⟩
  | .tup xs, _, h => by
    unfold Rep at h ⊢
    obtain ⟨a, vs, e, n, r, q⟩ := h
    exact ⟨a, vs, e, (fun z => by rw [s.new a z n] at r; exact nomatch r), s.ext _ _ n r, Reps.step s q⟩
theorem Reps.step {α α' : List (Option Addr)} {H H' : Hp} (s : Step α H α' H') : ∀ {ds : List D} {vs : List V}, Reps α H ds vs → Reps α' H' ds vs
  | [], _, h => by unfold Reps at h ⊢; exact h
  | d :: ds, _, h => by
    unfold Reps at h ⊢
    obtain ⟨v, r, e, h1, h2⟩ := h
    exact ⟨v, r, e, Rep.step s h1, Reps.step s h2⟩
end
structure Spl (G F H : Hp) : Prop where
  eq : ∀ b, H b = (G b).or (F b)
  dis : ∀ b o, G b = some o → F b = none
section
variable {G F H : Hp}
theorem Spl.get (P : Spl G F H) {b : Addr} {o : HO} (h : G b = some o) : H b = some o := by rw [P.eq b, h]; rfl
theorem Spl.same (P : Spl G F H) : Same G H := fun _ _ h => P.get h
theorem Spl.none (P : Spl G F H) {b : Addr} (h : H b = none) : G b = none ∧ F b = none := by
  have e := P.eq b
  rw [h] at e
  cases q : G b with
  | none => rw [q] at e; exact ⟨rfl, e.symm⟩
  | some o => rw [q] at e; cases e
theorem Spl.frame (P : Spl G F H) {b : Addr} {o : HO} (h : F b = some o) : H b = some o ∧ G b = Option.none := by
  have hn : G b = Option.none := by
    cases q : G b with
    | none => rfl
    | some u => rw [P.dis b u q] at h; cases h
  exact ⟨by rw [P.eq b, hn, h]; rfl, hn⟩
theorem Spl.laid (P : Spl G F H) {p : Addr} {o : HO} (h : H p = Option.none) : Spl (upd G p o) F (upd H p o) := by
  obtain ⟨h1, h2⟩ := P.none h
  refine ⟨fun b => ?_, fun b u e => ?_⟩
  · by_cases hb : b = p
    · subst hb; rw [upd_same, upd_same]; rfl
    · rw [upd_ne hb, upd_ne hb]; exact P.eq b
  · by_cases hb : b = p
    · subst hb; exact h2
    · rw [upd_ne hb] at e; exact P.dis b u e
theorem Spl.write (P : Spl G F H) {p : Addr} {o o' : HO} (h : G p = some o) : Spl (upd G p o') F (upd H p o') := by
  refine ⟨fun b => ?_, fun b u e => ?_⟩
  · by_cases hb : b = p
    · subst hb; rw [upd_same, upd_same]; rfl
    · rw [upd_ne hb, upd_ne hb]; exact P.eq b
  · by_cases hb : b = p
    · subst hb; exact P.dis b o h
    · rw [upd_ne hb] at e; exact P.dis b u e
theorem Spl.hide (P : Spl G F H) {p : Addr} {o : HO} (h : H p = Option.none) : Spl G (upd F p o) (upd H p o) := by
  obtain ⟨h1, h2⟩ := P.none h
  refine ⟨fun b => ?_, fun b u e => ?_⟩
  · by_cases hb : b = p
    · subst hb; rw [upd_same, upd_same, h1]; rfl
    · rw [upd_ne hb, upd_ne hb]; exact P.eq b
  · by_cases hb : b = p
    · subst hb; rw [h1] at e; cases e
    · rw [upd_ne hb]; exact P.dis b u e
theorem Spl.hid (P : Spl G F H) {p : Addr} {o o' : HO} (h : F p = some o) : Spl G (upd F p o') (upd H p o') := by
  have h1 := (P.frame h).2
  refine ⟨fun b => ?_, fun b u e => ?_⟩
  · by_cases hb : b = p
    · subst hb; rw [upd_same, upd_same, h1]; rfl
    · rw [upd_ne hb, upd_ne hb]; exact P.eq b
  · by_cases hb : b = p
    · subst hb; rw [h1] at e; cases e
    · rw [upd_ne hb]; exact P.dis b u e
theorem Spl.show {p : Addr} {o : HO} (P : Spl G (upd F p o) H) (h : F p = Option.none) : Spl (upd G p o) F H := by
  have h1 := (P.frame (b := p) upd_same)
  refine ⟨fun b => ?_, fun b u e => ?_⟩
  · by_cases hb : b = p
    · subst hb; rw [upd_same, h1.1]; rfl
    · rw [upd_ne hb, P.eq b, upd_ne hb]
  · by_cases hb : b = p
    · subst hb; exact h
    · rw [upd_ne hb] at e
      have := P.dis b u e
      rw [upd_ne hb] at this; exact this
end
mutual
theorem Rep.mono {α : List (Option Addr)} {G H : Hp} (s : Same G H) : ∀ {d : D} {v : V}, Rep α G d v → Rep α H d v
  | .non, _, h => by unfold Rep at h ⊢; exact h
  | .bl _, _, h => by unfold Rep at h ⊢; exact h
  | .int _, _, h => by unfold Rep at h ⊢; exact h
  | .str _, _, h => by unfold Rep at h ⊢; exact h
  | .ty _, _, h => by unfold Rep at h ⊢; exact h
  | .ref n, _, h => by unfold Rep at h ⊢; exact h
  | .lst xs, _, h => by
    unfold Rep at h ⊢
    obtain ⟨a, vs, e, n, r, q⟩ := h
    refine ⟨a, vs, e, n, ?_, Reps.mono s q⟩
    rcases r with r | ⟨o, r⟩
    · exact .inl (s _ _ r)
    · exact .inr ⟨o, s _ _ r⟩
  | .tup xs, _, h => by
    unfold Rep at h ⊢
    obtain ⟨a, vs, e, n, r, q⟩ := h
    exact ⟨a, vs, e, n, s _ _ r, Reps.mono s q⟩
theorem Reps.mono {α : List (Option Addr)} {G H : Hp} (s : Same G H) : ∀ {ds : List D} {vs : List V}, Reps α G ds vs → Reps α H ds vs
  | [], _, h => by unfold Reps at h ⊢; exact h
  | d :: ds, _, h => by
    unfold Reps at h ⊢
    obtain ⟨v, r, e, h1, h2⟩ := h
    exact ⟨v, r, e, Rep.mono s h1, Reps.mono s h2⟩
end
def RepF (α : List (Option Addr)) (H : Hp) : List (Str × D) → List (Str × V) → Prop := Paired fun p q => p.1 = q.1 ∧ Rep α H p.2 q.2
def CellAt (α : List (Option Addr)) (H : Hp) (a : Addr) : Cell → Prop
  | .lst xs => ∃ vs, H a = some (.lst vs) ∧ Reps α H xs vs
  | .ins C fs => ∃ dx vs, H a = some (.ins C dx vs) ∧ RepF α H fs vs
  | .dead => False
structure StRel (α : List (Option Addr)) (st : Store) (H : Hp) : Prop where
  len : α.length = st.length
  nd : ∀ (i j : Nat) (a : Addr), α[i]? = some (some a) → α[j]? = some (some a) → i = j
  at' : ∀ (n : Nat) (c : Cell), st[n]? = some c → (c = .dead ∧ α[n]? = some none) ∨ ∃ a, α[n]? = some (some a) ∧ CellAt α H a c
theorem RepF.step {α α' : List (Option Addr)} {H H' : Hp} (s : Step α H α' H') {ds : List (Str × D)} {vs : List (Str × V)} (h : RepF α H ds vs) : RepF α' H' ds vs := Paired.mapP h fun _ _ z => ⟨z.1, z.2.step s⟩
theorem CellAt.same {α α' : List (Option Addr)} {H H' : Hp} {a : Addr} {c : Cell} (s : Step α H α' H') (e : H' a = H a) (h : CellAt α H a c) : CellAt α' H' a c := by
  cases c with
  | lst xs => obtain ⟨vs, h1, h2⟩ := h; exact ⟨vs, e.trans h1, h2.step s⟩
  | ins C fs => obtain ⟨dx, vs, h1, h2⟩ := h; exact ⟨dx, vs, e.trans h1, h2.step s⟩
  | dead => exact h.elim
theorem CellAt.some {α : List (Option Addr)} {H : Hp} {a : Addr} {c : Cell} (h : CellAt α H a c) : ∃ o, H a = some o := by
  cases c with
  | lst xs => obtain ⟨vs, h1, h2⟩ := h; exact ⟨_, h1⟩
  | ins C fs => obtain ⟨dx, vs, h1, h2⟩ := h; exact ⟨_, h1⟩
  | dead => exact h.elim
theorem rep_at {α : List (Option Addr)} {H : Hp} {n : Nat} {v : V} {a : Addr} (e : α[n]? = Option.some (Option.some a)) (r : Rep α H (.ref n) v) : v = .ref a := by
  unfold Rep at r
  rcases r with r | ⟨b, eb, rfl⟩
  · rw [e] at r; cases r
  · rw [e] at eb; cases eb; rfl
section
variable {α : List (Option Addr)} {st : Store} {H : Hp}
theorem StRel.lstAt (S : StRel α st H) {n : Nat} {xs : List D} (e : st[n]? = Option.some (.lst xs)) : ∃ a, α[n]? = Option.some (Option.some a) ∧ ∃ vs, H a = Option.some (.lst vs) ∧ Reps α H xs vs := by
  rcases S.at' n _ e with ⟨z, _⟩ | z
  · cases z
  · exact z
theorem StRel.insAt (S : StRel α st H) {n : Nat} {C : Addr} {fs : List (Str × D)} (e : st[n]? = Option.some (.ins C fs)) : ∃ a, α[n]? = Option.some (Option.some a) ∧ ∃ dx vs, H a = Option.some (.ins C dx vs) ∧ RepF α H fs vs := by
  rcases S.at' n _ e with ⟨z, _⟩ | z
  · cases z
  · exact z
theorem StRel.mem (S : StRel α st H) {a : Addr} (h : Option.some a ∈ α) : ∃ (n : Nat) (c : Cell), α[n]? = Option.some (Option.some a) ∧ st[n]? = Option.some c ∧ CellAt α H a c := by
  obtain ⟨n, hn, e⟩ := List.mem_iff_getElem.mp h
  have hl : n < st.length := by rw [← S.len]; exact hn
  have e' : α[n]? = Option.some (Option.some a) := by rw [List.getElem?_eq_getElem hn, e]
  rcases S.at' n st[n] (by simp [hl]) with ⟨_, q⟩ | ⟨a', q, ca⟩
  · rw [e'] at q; cases q
  · rw [e'] at q; cases q
    exact ⟨n, _, e', by simp [hl], ca⟩
theorem StRel.notin (S : StRel α st H) {p : Addr} (h : H p = none) : Option.some p ∉ α := fun z => by
  obtain ⟨n, c, _, _, ca⟩ := S.mem z
  obtain ⟨o, e⟩ := ca.some
  rw [h] at e; cases e
theorem StRel.laid (S : StRel α st H) {p : Addr} {o : HO} (h : H p = none) : StRel α st (upd H p o) :=
  ⟨S.len, S.nd, fun n c e => by
    rcases S.at' n c e with z | ⟨a, q, ca⟩
    · exact .inl z
    · exact .inr ⟨a, q, ca.same (Step.laid h) (upd_ne (by obtain ⟨u, z⟩ := ca.some; exact ne_of_none z h))⟩⟩
theorem StRel.cell (S : StRel α st H) {p : Addr} {o : HO} {c : Cell} (h : H p = none) (hc : CellAt (α ++ [Option.some p]) (upd H p o) p c) : StRel (α ++ [Option.some p]) (st ++ [c]) (upd H p o) where
  len := by rw [List.length_append, List.length_append, S.len]; rfl
  nd := fun i j a ei ej => by
    have key : ∀ (i : Nat) (a : Addr), (α ++ [Option.some p])[i]? = Option.some (Option.some a) → (i < α.length ∧ α[i]? = Option.some (Option.some a)) ∨ (i = α.length ∧ a = p) := by
      intro i a e
      by_cases hi : i < α.length
      · rw [List.getElem?_append_left hi] at e; exact .inl ⟨hi, e⟩
      · rw [List.getElem?_append_right (Nat.le_of_not_lt hi)] at e
        have h0 : i - α.length = 0 := by
          cases q : i - α.length with
          | zero => rfl
          | succ k => rw [q] at e; simp at e
        rw [h0] at e
        have : p = a := by simpa using e
        exact .inr ⟨by omega, this.symm⟩
    rcases key i a ei with ⟨h1, e1⟩ | ⟨h1, e1⟩ <;> rcases key j a ej with ⟨h2, e2⟩ | ⟨h2, e2⟩
    · exact S.nd i j a e1 e2
    · subst e2; exact absurd (List.mem_of_getElem? e1) (S.notin h)
    · subst e1; exact absurd (List.mem_of_getElem? e2) (S.notin h)
    · omega
  at' := fun n d e => by
    by_cases hn : n < st.length
    · rw [List.getElem?_append_left hn] at e
      have hl : n < α.length := by rw [S.len]; exact hn
      rcases S.at' n d e with ⟨z, q⟩ | ⟨a, q, ca⟩
      · exact .inl ⟨z, by rw [List.getElem?_append_left hl]; exact q⟩
      · exact .inr ⟨a, by rw [List.getElem?_append_left hl]; exact q, ca.same (Step.cell h) (upd_ne (by obtain ⟨u, z⟩ := ca.some; exact ne_of_none z h))⟩
    · rw [List.getElem?_append_right (Nat.le_of_not_lt hn)] at e
      have h0 : n - st.length = 0 := by
        cases q : n - st.length with
        | zero => rfl
        | succ k => rw [q] at e; simp at e
      rw [h0] at e
      have hd : c = d := by simpa using e
      subst hd
      refine .inr ⟨p, ?_, hc⟩
      rw [List.getElem?_append_right (by rw [S.len]; exact Nat.le_of_not_lt hn), S.len, h0]
      rfl
theorem StRel.write (S : StRel α st H) {p : Addr} {o : HO} {c : Cell} {n : Nat} (e : α[n]? = Option.some (Option.some p)) (hc : CellAt α (upd H p o) p c) : StRel α (st.set n c) (upd H p o) where
  len := by rw [List.length_set]; exact S.len
  nd := S.nd
  at' := fun m d q => by
    have hp : Option.some p ∈ α := List.mem_of_getElem? e
    by_cases hm : m = n
    · subst hm
      have hl : m < st.length := by
        have := (List.getElem?_eq_some_iff.mp q).1
        rw [List.length_set] at this; exact this
      rw [List.getElem?_set_self hl] at q
      cases q
      exact .inr ⟨p, e, hc⟩
    · rw [List.getElem?_set_ne (Ne.symm hm)] at q
      rcases S.at' m d q with z | ⟨a, r, ca⟩
      · exact .inl z
      · refine .inr ⟨a, r, ca.same (Step.write hp) (upd_ne fun z => ?_)⟩
        subst z
        exact hm (S.nd m n _ r e)
theorem StRel.frz (S : StRel α st H) {n : Nat} (hn : n < st.length) : StRel (α.set n none) (st.set n .dead) H where
  len := by rw [List.length_set, List.length_set]; exact S.len
  nd := fun i j a ei ej => by
    have key : ∀ (i : Nat), (α.set n none)[i]? = Option.some (Option.some a) → α[i]? = Option.some (Option.some a) := by
      intro i e
      by_cases hi : n = i
      · subst hi; rw [List.getElem?_set_self (by rw [S.len]; exact hn)] at e; cases e
      · rw [List.getElem?_set_ne hi] at e; exact e
    exact S.nd i j a (key i ei) (key j ej)
  at' := fun m d q => by
    by_cases hm : n = m
    · subst hm
      rw [List.getElem?_set_self hn] at q
      cases q
      exact .inl ⟨rfl, List.getElem?_set_self (by rw [S.len]; exact hn)⟩
    · rw [List.getElem?_set_ne hm] at q
      rcases S.at' m d q with ⟨z, r⟩ | ⟨a, r, ca⟩
      · exact .inl ⟨z, by rw [List.getElem?_set_ne hm]; exact r⟩
      · exact .inr ⟨a, by rw [List.getElem?_set_ne hm]; exact r, ca.same Step.frz rfl⟩
end
end L3
namespace L3
open PySem PySem.Spec L2
open PyProof.Rows hiding St
abbrev DK := D → Store → Prop
abbrev DE := DEnv → Store → DK → Prop
abbrev DT := DEnv → Store → (Bool → Store → Prop) → Prop
abbrev DA := DEnv → Store → (List D → Store → Prop) → Prop
structure DEnds where
  nx : DEnv → Store → Prop
  rt : DK
  bk : DEnv → Store → Prop := fun _ _ => False
  ct : DEnv → Store → Prop := fun _ _ => False
abbrev DS := DEnds → DEnv → Store → Prop
structure RelS (α : List (Option Addr)) (H : Hp) (σd : DEnv) (σ : L2.St) : Prop where
  len : σd.length = σ.length
  at' : ∀ (i : Nat) (d : D), σd[i]? = some (some d) → ∃ v, σ[i]? = some (some v) ∧ Rep α H d v
theorem RelS.step {α α' : List (Option Addr)} {H H' : Hp} {σd : DEnv} {σ : L2.St} (s : Step α H α' H') (h : RelS α H σd σ) : RelS α' H' σd σ :=
  ⟨h.len, fun i d e => let ⟨v, q, r⟩ := h.at' i d e; ⟨v, q, r.step s⟩⟩
theorem RelS.set {α : List (Option Addr)} {H : Hp} {σd : DEnv} {σ : L2.St} (h : RelS α H σd σ) (i : Nat) {d : D} {v : V} (r : Rep α H d v) : RelS α H (σd.set i (some d)) (σ.set i (some v)) := by
  refine ⟨by rw [List.length_set, List.length_set, h.len], fun j e q => ?_⟩
  have hl := h.len
  by_cases hj : j = i
  · subst hj
    have hlt : j < σd.length := by
      have := (List.getElem?_eq_some_iff.mp q).1
      rw [List.length_set] at this; exact this
    rw [List.getElem?_set_self hlt] at q
    cases q
    exact ⟨v, List.getElem?_set_self (by omega), r⟩
  · rw [List.getElem?_set_ne (Ne.symm hj)] at q
    rw [List.getElem?_set_ne (Ne.symm hj)]
    exact h.at' j e q
def LK (α : List (Option Addr)) (G F : Hp) (K : DK) (Q : VK) : Prop := ∀ d st', K d st' → ∀ α' G' H' v, Step α G α' G' → Spl G' F H' → StRel α' st' G' → Rep α' G' d v → Q v H'
def LKB (α : List (Option Addr)) (G F : Hp) (K : Bool → Store → Prop) (Q : Bool → Hp → Prop) : Prop := ∀ b st', K b st' → ∀ α' G' H', Step α G α' G' → Spl G' F H' → StRel α' st' G' → Q b H'
def LKA (α : List (Option Addr)) (G F : Hp) (K : List D → Store → Prop) (Q : List V → Hp → Prop) : Prop := ∀ ds st', K ds st' → ∀ α' G' H' vs, Step α G α' G' → Spl G' F H' → StRel α' st' G' → Reps α' G' ds vs → Q vs H'
def LE (t : DE) : TE := fun σ H Q => ∃ α σd st K G F, Spl G F H ∧ RelS α G σd σ ∧ StRel α st G ∧ t σd st K ∧ LK α G F K Q
def LT (t : DT) : TT := fun σ H Q => ∃ α σd st K G F, Spl G F H ∧ RelS α G σd σ ∧ StRel α st G ∧ t σd st K ∧ LKB α G F K Q
def LA (t : DA) : TA := fun σ H Q => ∃ α σd st K G F, Spl G F H ∧ RelS α G σd σ ∧ StRel α st G ∧ t σd st K ∧ LKA α G F K Q
theorem LK.here {α : List (Option Addr)} {G F H : Hp} {K : DK} {Q : VK} (h : LK α G F K Q) (P : Spl G F H) {d : D} {st : Store} {v : V} (k : K d st) (S : StRel α st G) (r : Rep α G d v) : Q v H := h d st k α G H v Step.refl P S r
theorem LK.at {α α1 : List (Option Addr)} {G F G1 : Hp} {K : DK} {Q : VK} (h : LK α G F K Q) (s : Step α G α1 G1) : LK α1 G1 F K Q := fun d st' k α' G' H' v s' P S r => h d st' k α' G' H' v (s.trans s') P S r
theorem LKB.at {α α1 : List (Option Addr)} {G F G1 : Hp} {K : Bool → Store → Prop} {Q : Bool → Hp → Prop} (h : LKB α G F K Q) (s : Step α G α1 G1) : LKB α1 G1 F K Q := fun d st' k α' G' H' s' P S => h d st' k α' G' H' (s.trans s') P S
theorem LKA.at {α α1 : List (Option Addr)} {G F G1 : Hp} {K : List D → Store → Prop} {Q : List V → Hp → Prop} (h : LKA α G F K Q) (s : Step α G α1 G1) : LKA α1 G1 F K Q := fun d st' k α' G' H' v s' P S r => h d st' k α' G' H' v (s.trans s') P S r
section
variable {X : Cx} {a b c e : Expr} {es : List Expr} {ta tb tc te : DE} {pos : Pos}
theorem PE.imp {t t' : TE} (h : PE X e t) (f : ∀ σ H Q, t' σ H Q → t σ H Q) : PE X e t' := fun pins s σ H Q I q => h pins s σ H Q I (f σ H Q q)
theorem PT.imp {t t' : TT} (h : PT X e t) (f : ∀ σ H Q, t' σ H Q → t σ H Q) : PT X e t' := fun pins s σ H Q I q => h pins s σ H Q I (f σ H Q q)
theorem PW.imp {t t' : TT} (h : PW X e t) (f : ∀ σ H Q, t' σ H Q → t σ H Q) : PW X e t' := fun w pins s σ H Q I q => h w pins s σ H Q I (f σ H Q q)
theorem PA.imp {t t' : TA} (h : PA X es t) (f : ∀ σ H Q, t' σ H Q → t σ H Q) : PA X es t' := fun p pins s σ H Q I q => h p pins s σ H Q I (f σ H Q q)
def dVar (i : Nat) : DE := fun σ st K => match σ[i]? with | some (some d) => K d st | _ => False
def dC (d : D) : DE := fun _ st K => K d st
theorem d_var {i : Nat} {x : Str} (h : PE X (.Name x pos) (tVar i)) : PE X (.Name x pos) (LE (dVar i)) := PE.imp h fun σ H Q ⟨α, σd, st, K, G, F, P, R, S, t, k⟩ => by
  unfold dVar at t
  split at t
  · rename_i d q
    obtain ⟨v, e, r⟩ := R.at' i d q
    exact ⟨v, e, k.here P t S r⟩
  · exact t.elim
theorem d_const {v : V} {d : D} (h : PE X e (tC v)) (r : ∀ α H, Rep α H d v) : PE X e (LE (dC d)) := PE.imp h fun σ H Q ⟨α, σd, st, K, G, F, P, R, S, t, k⟩ => k.here P t S (r α G)
theorem d_int {i : Int} {j : Nat} : PE X (.Constant (.int i) j pos) (LE (dC (.int i))) := d_const pe_int fun _ _ => by unfold Rep; rfl
theorem d_bl {i : Bool} {j : Nat} : PE X (.Constant (.bool i) j pos) (LE (dC (.bl i))) := d_const pe_bl fun _ _ => by unfold Rep; rfl
theorem d_non {j : Nat} : PE X (.Constant .none j pos) (LE (dC .non)) := d_const pe_non fun _ _ => by unfold Rep; rfl
abbrev DR2 := D → D → Store → DK → Prop
abbrev DR1 := D → Store → DK → Prop
abbrev DRA := List D → Store → DK → Prop
def LR (r : DR2) : R2 := fun x y H Q => ∃ α d e st K G F, Spl G F H ∧ Rep α G d x ∧ Rep α G e y ∧ StRel α st G ∧ r d e st K ∧ LK α G F K Q
def LR1 (r : DR1) : V → Hp → VK → Prop := fun x H Q => ∃ α d st K G F, Spl G F H ∧ Rep α G d x ∧ StRel α st G ∧ r d st K ∧ LK α G F K Q
def LRA (r : DRA) : List V → Hp → VK → Prop := fun xs H Q => ∃ α ds st K G F, Spl G F H ∧ Reps α G ds xs ∧ StRel α st G ∧ r ds st K ∧ LK α G F K Q
def dOp (r : DR2) (ta tb : DE) : DE := fun σ st K => ta σ st fun x st1 => tb σ st1 fun y st2 => r x y st2 K
def dUn (r : DR1) (ta : DE) : DE := fun σ st K => ta σ st fun x st1 => r x st1 K
theorem LE.op {r : DR2} {σ : L2.St} {H : Hp} {Q : VK} (h : LE (dOp r ta tb) σ H Q) : tOp (LR r) (LE ta) (LE tb) σ H Q := by
  obtain ⟨α, σd, st, K, G, F, P, R, S, t, k⟩ := h
  refine ⟨α, σd, st, _, G, F, P, R, S, t, fun d st1 q α1 G1 H1 v s1 P1 S1 r1 => ?_⟩
  refine ⟨α1, σd, st1, _, G1, F, P1, R.step s1, S1, q, fun d2 st2 q2 α2 G2 H2 v2 s2 P2 S2 r2 => ?_⟩
  exact ⟨α2, d, d2, st2, K, G2, F, P2, r1.step s2, r2, S2, q2, (k.at s1).at s2⟩
theorem LE.un {r : DR1} {σ : L2.St} {H : Hp} {Q : VK} (h : LE (dUn r ta) σ H Q) : tUn (LR1 r) (LE ta) σ H Q := by
  obtain ⟨α, σd, st, K, G, F, P, R, S, t, k⟩ := h
  refine ⟨α, σd, st, _, G, F, P, R, S, t, fun d st1 q α1 G1 H1 v s1 P1 S1 r1 => ?_⟩
  exact ⟨α1, d, st1, K, G1, F, P1, r1, S1, q, k.at s1⟩
theorem d_op {op : Operator} {r : DR2} (ho : OpR X (binaryOp op) (LR r)) (ha : PE X a (LE ta)) (hb : PE X b (LE tb)) : PE X (.BinOp a op b pos) (LE (dOp r ta tb)) := PE.imp (pe_op ho ha hb) fun _ _ _ h => LE.op h
theorem d_un {op : UnaryOp} {r : DR1} (ho : UnR X (unaryOp op) (LR1 r)) (ha : PE X a (LE ta)) : PE X (.UnaryOp op a pos) (LE (dUn r ta)) := PE.imp (pe_un ho ha) fun _ _ _ h => LE.un h
theorem d_cmp {op : CmpOp} {r : DR2} (ho : OpR X (compareOp op) (LR r)) (ha : PE X a (LE ta)) (hb : PE X b (LE tb)) (hm : behindInMarks op b = false := by first | exact nomark _ | rfl) : PE X (.Compare a [op] [b] pos) (LE (dOp r ta tb)) := PE.imp (pe_cmpR ho ha hb hm) fun _ _ _ h => LE.op h
def dTest (t : DE) : DT := fun σ st K => t σ st fun d st1 => match d with | .bl b => K b st1 | _ => False
theorem LT.test {σ : L2.St} {H : Hp} {Q : Bool → Hp → Prop} (h : LT (dTest te) σ H Q) : LE te σ H fun x H' => ∃ k, x = .bl k ∧ Q k H' := by
  obtain ⟨α, σd, st, K, G, F, P, R, S, t, k⟩ := h
  refine ⟨α, σd, st, _, G, F, P, R, S, t, fun d st1 q α1 G1 H1 v s1 P1 S1 r1 => ?_⟩
  cases d with
  | bl b =>
    unfold Rep at r1
    exact ⟨b, r1, k b st1 q α1 G1 H1 s1 P1 S1⟩
  | _ => exact q.elim
theorem d_tcmp {op : CmpOp} {r : DR2} (ho : OpR X (compareOp op) (LR r)) (ha : PE X a (LE ta)) (hb : PE X b (LE tb)) (hm : behindInMarks op b = false := by first | exact nomark _ | rfl) : PT X (.Compare a [op] [b] pos) (LT (dTest (dOp r ta tb))) := PT.imp (pt_cmpR ho ha hb hm) fun σ H Q h => by
  have q := LT.test h
  exact LE.op (Q := fun x H' => ∃ k, x = .bl k ∧ Q k H') q
theorem d_tval (he : PE X e (LE te)) (hv : ∀ whole, isTrue e X.env whole = (do let v ← whole; standAt e.pos; holding [v] (truthy v)) := by intro _; rfl) : PT X e (LT (dTest te)) := PT.imp (pt_val he hv) fun σ H Q h => LT.test h
def dNotT (t : DT) : DT := fun σ st K => t σ st fun b st1 => K (!b) st1
def dAndT (t u : DT) : DT := fun σ st K => t σ st fun b st1 => if b = true then u σ st1 K else K false st1
def dOrT (t u : DT) : DT := fun σ st K => t σ st fun b st1 => if b = true then K true st1 else u σ st1 K
theorem d_tnot {t : DT} (ha : PT X a (LT t)) : PT X (.UnaryOp .Not a pos) (LT (dNotT t)) := PT.imp (pt_not ha) fun σ H Q ⟨α, σd, st, K, G, F, P, R, S, t, k⟩ =>
  ⟨α, σd, st, _, G, F, P, R, S, t, fun b st1 q α1 G1 H1 s1 P1 S1 => k _ st1 q α1 G1 H1 s1 P1 S1⟩
theorem LT.and {t u : DT} {σ : L2.St} {H : Hp} {Q : Bool → Hp → Prop} (h : LT (dAndT t u) σ H Q) : tAnd (LT t) (LT u) σ H Q := by
  obtain ⟨α, σd, st, K, G, F, P, R, S, t, k⟩ := h
  refine ⟨α, σd, st, _, G, F, P, R, S, t, fun b st1 q α1 G1 H1 s1 P1 S1 => ?_⟩
  cases b with
  | true => exact ⟨α1, σd, st1, K, G1, F, P1, R.step s1, S1, q, k.at s1⟩
  | false => exact k _ st1 q α1 G1 H1 s1 P1 S1
theorem LT.or {t u : DT} {σ : L2.St} {H : Hp} {Q : Bool → Hp → Prop} (h : LT (dOrT t u) σ H Q) : tOr (LT t) (LT u) σ H Q := by
  obtain ⟨α, σd, st, K, G, F, P, R, S, t, k⟩ := h
  refine ⟨α, σd, st, _, G, F, P, R, S, t, fun b st1 q α1 G1 H1 s1 P1 S1 => ?_⟩
  cases b with
  | false => exact ⟨α1, σd, st1, K, G1, F, P1, R.step s1, S1, q, k.at s1⟩
  | true => exact k _ st1 q α1 G1 H1 s1 P1 S1
theorem d_wand1 {t : DT} (ha : PT X a (LT t)) : PW X (.BoolOp .And [a] pos) (LT t) := pw_and1 ha
theorem d_wor1 {t : DT} (ha : PT X a (LT t)) : PW X (.BoolOp .Or [a] pos) (LT t) := pw_or1 ha
theorem d_wand {t u : DT} (ha : PT X a (LT t)) (hb : PW X (.BoolOp .And (b :: es) pos) (LT u)) : PW X (.BoolOp .And (a :: b :: es) pos) (LT (dAndT t u)) := PW.imp (pw_and ha hb) fun _ _ _ h => LT.and h
theorem d_wor {t u : DT} (ha : PT X a (LT t)) (hb : PW X (.BoolOp .Or (b :: es) pos) (LT u)) : PW X (.BoolOp .Or (a :: b :: es) pos) (LT (dOrT t u)) := PW.imp (pw_or ha hb) fun _ _ _ h => LT.or h
def dAndV (ta tb : DE) : DE := fun σ st K => ta σ st fun d st1 => match d with | .bl b => if b = true then tb σ st1 K else K (.bl false) st1 | _ => False
def dOrV (ta tb : DE) : DE := fun σ st K => ta σ st fun d st1 => match d with | .bl b => if b = true then K (.bl true) st1 else tb σ st1 K | _ => False
def dNotV (t : DT) : DE := fun σ st K => t σ st fun b st1 => K (.bl (!b)) st1
theorem d_one {op : BoolOp} (ha : PE X a (LE ta)) : PE X (.BoolOp op [a] pos) (LE ta) := pe_one ha
theorem d_and (ha : PE X a (LE ta)) (hb : PE X (.BoolOp .And (b :: es) pos) (LE tb)) : PE X (.BoolOp .And (a :: b :: es) pos) (LE (dAndV ta tb)) := PE.imp (pe_and ha hb) fun σ H Q ⟨α, σd, st, K, G, F, P, R, S, t, k⟩ => by
  refine ⟨α, σd, st, _, G, F, P, R, S, t, fun d st1 q α1 G1 H1 v s1 P1 S1 r1 => ?_⟩
  cases d with
  | bl b =>
    unfold Rep at r1
    refine ⟨b, r1, ?_⟩
    cases b with
    | true => exact ⟨α1, σd, st1, K, G1, F, P1, R.step s1, S1, q, k.at s1⟩
    | false => exact k _ st1 q α1 G1 H1 _ s1 P1 S1 (by unfold Rep; rfl)
  | _ => exact q.elim
theorem d_or (ha : PE X a (LE ta)) (hb : PE X (.BoolOp .Or (b :: es) pos) (LE tb)) : PE X (.BoolOp .Or (a :: b :: es) pos) (LE (dOrV ta tb)) := PE.imp (pe_or ha hb) fun σ H Q ⟨α, σd, st, K, G, F, P, R, S, t, k⟩ => by
  refine ⟨α, σd, st, _, G, F, P, R, S, t, fun d st1 q α1 G1 H1 v s1 P1 S1 r1 => ?_⟩
  cases d with
  | bl b =>
    unfold Rep at r1
    refine ⟨b, r1, ?_⟩
    cases b with
    | false => exact ⟨α1, σd, st1, K, G1, F, P1, R.step s1, S1, q, k.at s1⟩
    | true => exact k _ st1 q α1 G1 H1 _ s1 P1 S1 (by unfold Rep; rfl)
  | _ => exact q.elim
theorem d_not (ha : PE X a (LE ta)) : PE X (.UnaryOp .Not a pos) (LE (dNotV (dTest ta))) := PE.imp (pe_not ha) fun σ H Q ⟨α, σd, st, K, G, F, P, R, S, t, k⟩ => by
  refine ⟨α, σd, st, _, G, F, P, R, S, t, fun d st1 q α1 G1 H1 v s1 P1 S1 r1 => ?_⟩
  cases d with
  | bl b =>
    unfold Rep at r1
    exact ⟨b, r1, k _ st1 q α1 G1 H1 _ s1 P1 S1 (by unfold Rep; rfl)⟩
  | _ => exact q.elim
def dIf (t : DT) (ta tb : DE) : DE := fun σ st K => t σ st fun b st1 => if b = true then ta σ st1 K else tb σ st1 K
theorem d_ifE {t : DT} (hc : PT X c (LT t)) (ha : PE X a (LE ta)) (hb : PE X b (LE tb)) : PE X (.IfExp c a b pos) (LE (dIf t ta tb)) := PE.imp (pe_ifExp hc ha hb) fun σ H Q ⟨α, σd, st, K, G, F, P, R, S, t, k⟩ => by
  refine ⟨α, σd, st, _, G, F, P, R, S, t, fun b st1 q α1 G1 H1 s1 P1 S1 => ?_⟩
  cases b with
  | true => exact ⟨α1, σd, st1, K, G1, F, P1, R.step s1, S1, q, k.at s1⟩
  | false => exact ⟨α1, σd, st1, K, G1, F, P1, R.step s1, S1, q, k.at s1⟩
def dNil : DA := fun _ st K => K [] st
def dCons (ta : DE) (tr : DA) : DA := fun σ st K => ta σ st fun x st1 => tr σ st1 fun xs st2 => K (x :: xs) st2
theorem da_nil : PA X [] (LA dNil) := PA.imp pa_nil fun σ H Q ⟨α, σd, st, K, G, F, P, R, S, t, k⟩ => k [] st t α G H [] Step.refl P S (by unfold Reps; rfl)
theorem da_cons {tr : DA} (ha : PE X e (LE te)) (hr : PA X es (LA tr)) (hs : starEach (e :: es) X.env = (false, eval e X.env) :: starEach es X.env := by rfl) : PA X (e :: es) (LA (dCons te tr)) := PA.imp (pa_cons ha hr hs) fun σ H Q ⟨α, σd, st, K, G, F, P, R, S, t, k⟩ => by
  refine ⟨α, σd, st, _, G, F, P, R, S, t, fun d st1 q α1 G1 H1 v s1 P1 S1 r1 => ?_⟩
  refine ⟨α1, σd, st1, _, G1, F, P1, R.step s1, S1, q, fun ds st2 q2 α2 G2 H2 vs s2 P2 S2 r2 => ?_⟩
  exact k _ st2 q2 α2 G2 H2 (v :: vs) (s1.trans s2) P2 S2 (by unfold Reps; exact ⟨v, vs, rfl, r1.step s2, r2⟩)
def dTup (t : DA) : DE := fun σ st K => t σ st fun ds st1 => ds.length ≤ sizeLine ∧ K (.tup ds) st1
def dLst (t : DA) : DE := fun σ st K => t σ st fun ds st1 => ds.length ≤ sizeLine ∧ K (.lst ds) st1
def dNew (t : DA) : DE := fun σ st K => t σ st fun ds st1 => ds.length ≤ sizeLine ∧ K (.ref st1.length) (st1 ++ [.lst ds])
theorem LK.tup {α : List (Option Addr)} {G F H : Hp} {K : DK} {Q : VK} {ds : List D} {vs : List V} {st : Store} {p : Addr} (k : LK α G F K Q) (P : Spl G F H) (q : K (.tup ds) st) (S : StRel α st G) (r : Reps α G ds vs) (hp : H p = none) : Q (.ref p) (upd H p (.tup vs)) :=
  have hg := (P.none hp).1
  k _ st q α _ _ _ (Step.laid hg) (P.laid hp) (S.laid hg) (by unfold Rep; exact ⟨p, vs, rfl, S.notin hg, upd_same, r.step (Step.laid hg)⟩)
theorem LK.lst {α : List (Option Addr)} {G F H : Hp} {K : DK} {Q : VK} {ds : List D} {vs : List V} {st : Store} {p : Addr} (k : LK α G F K Q) (P : Spl G F H) (q : K (.lst ds) st) (S : StRel α st G) (r : Reps α G ds vs) (hp : H p = none) : Q (.ref p) (upd H p (.lst vs)) :=
  have hg := (P.none hp).1
  k _ st q α _ _ _ (Step.laid hg) (P.laid hp) (S.laid hg) (by unfold Rep; exact ⟨p, vs, rfl, S.notin hg, .of upd_same, r.step (Step.laid hg)⟩)
theorem LK.new {α : List (Option Addr)} {G F H : Hp} {K : DK} {Q : VK} {ds : List D} {vs : List V} {st : Store} {p : Addr} (k : LK α G F K Q) (P : Spl G F H) (q : K (.ref st.length) (st ++ [.lst ds])) (S : StRel α st G) (r : Reps α G ds vs) (hp : H p = none) : Q (.ref p) (upd H p (.lst vs)) :=
  have hg := (P.none hp).1
  k _ _ q (α ++ [some p]) _ _ _ (Step.cell hg) (P.laid hp) (S.cell hg ⟨vs, upd_same, r.step (Step.cell hg)⟩) (by
    unfold Rep
    refine .inr ⟨p, ?_, rfl⟩
    rw [List.getElem?_append_right (by rw [S.len]; exact Nat.le_refl _), S.len, Nat.sub_self]
    rfl)
theorem d_tup {n : Nat} {t : DA} (h : PA X es (LA t)) : PE X (.Tuple es n pos) (LE (dTup t)) := PE.imp (pe_tup h) fun σ H Q ⟨α, σd, st, K, G, F, P, R, S, t, k⟩ =>
  ⟨α, σd, st, _, G, F, P, R, S, t, fun ds st1 q α1 G1 H1 vs s1 P1 S1 r1 => ⟨by rw [← r1.length]; exact q.1, fun p hp => (k.at s1).tup P1 q.2 S1 r1 hp⟩⟩
theorem d_lst {t : DA} (h : PA X es (LA t)) : PE X (.List es pos) (LE (dLst t)) := PE.imp (pe_lst h) fun σ H Q ⟨α, σd, st, K, G, F, P, R, S, t, k⟩ =>
  ⟨α, σd, st, _, G, F, P, R, S, t, fun ds st1 q α1 G1 H1 vs s1 P1 S1 r1 => ⟨by rw [← r1.length]; exact q.1, fun p hp => (k.at s1).lst P1 q.2 S1 r1 hp⟩⟩
theorem d_new {t : DA} (h : PA X es (LA t)) : PE X (.List es pos) (LE (dNew t)) := PE.imp (pe_lst h) fun σ H Q ⟨α, σd, st, K, G, F, P, R, S, t, k⟩ =>
  ⟨α, σd, st, _, G, F, P, R, S, t, fun ds st1 q α1 G1 H1 vs s1 P1 S1 r1 => ⟨by rw [← r1.length]; exact q.1, fun p hp => (k.at s1).new P1 q.2 S1 r1 hp⟩⟩
abbrev DSp := List D → Store → DK → Prop
def LSp (S : DSp) : Sp := fun vs H Q _ => ∃ α ds st K G F, Spl G F H ∧ Reps α G ds vs ∧ StRel α st G ∧ S ds st K ∧ LK α G F K Q
def dCall (S : DSp) (t : DA) : DE := fun σ st K => t σ st fun ds st1 => S ds st1 K
theorem LE.call {S : DSp} {t : DA} {σ : L2.St} {H : Hp} {Q : VK} (h : LE (dCall S t) σ H Q) : tCall (LSp S) [] E0 (LA t) σ H Q := by
  obtain ⟨α, σd, st, K, G, F, P, R, S, t, k⟩ := h
  refine ⟨α, σd, st, _, G, F, P, R, S, t, fun ds st1 q α1 G1 H1 vs s1 P1 S1 r1 => ?_⟩
  dsimp only
  rw [List.append_nil]
  exact ⟨α1, ds, st1, K, G1, F, P1, r1, S1, q, k.at s1⟩
theorem d_call {S : DSp} {k : Nat} {f : Addr} {fd : FuncData} {ps : List Str} {x : Str} {p : Pos} {t : DA} (F : FnOk X.prog X.w X.K X.mg X.base CX0 k f fd ps (LSp S)) (hr : Room k X.A) (hg : Gl X x) (hm : X.mg x = some (.ref f)) (hk : PySem.W.keepIn X.K (.ref f) = true) (hb : Binds X.K fd ps [])
    (ha : PA X (e :: es) (LA t)) (hdb : (x == ("__debug__" : Str)) = false := by decide) (he : starEach (e :: es) X.env = (false, eval e X.env) :: starEach es X.env := by rfl) (hpl : (backTo pos (starEach es X.env)).any (·.1) = false := by rfl) :
    PE X (.Call (.Name x p) (e :: es) [] pos) (LE (dCall S t)) := PE.imp (pe_call F hr hg hm hk hb .nil pass0 ha hdb he hpl) fun _ _ _ h => LE.call h
def dCB (r : DRA) (t : DA) : DE := fun σ st K => t σ st fun ds st1 => r ds st1 K
theorem LE.cb {r : DRA} {t : DA} {σ : L2.St} {H : Hp} {Q : VK} (h : LE (dCB r t) σ H Q) : tCB (LRA r) (LA t) σ H Q := by
  obtain ⟨α, σd, st, K, G, F, P, R, S, t, k⟩ := h
  refine ⟨α, σd, st, _, G, F, P, R, S, t, fun ds st1 q α1 G1 H1 vs s1 P1 S1 r1 => ?_⟩
  exact ⟨α1, ds, st1, K, G1, F, P1, r1, S1, q, k.at s1⟩
end
end L3
namespace L3
open PySem PySem.Spec L2
open PyProof.Rows hiding St
section
variable {X : Cx}
theorem OpR.imp {f : Value → Value → Sem Value} {r r' : R2} (h : OpR X f r) (k : ∀ x y H Q, r' x y H Q → r x y H Q) : OpR X f r' := fun pins s σ H x y v u Q I rx ry q => h pins s σ H x y v u Q I rx ry (k x y H Q q)
theorem CallR.imp {f : Value} {r r' : List V → Hp → VK → Prop} (h : CallR X f r) (k : ∀ xs H Q, r' xs H Q → r xs H Q) : CallR X f r' := fun pins s σ H xs us Q I rs q => h pins s σ H xs us Q I rs (k xs H Q q)
def dI2 (C : Int → Int → Prop) (g : Int → Int → D) : DR2 := fun x y st K => match x, y with | .int i, .int j => C i j ∧ K (g i j) st | _, _ => False
theorem opI_of {f : Value → Value → Sem Value} {C : Int → Int → Prop} {g : Int → Int → D} {g' : Int → Int → V} (hg : ∀ i j α H, Rep α H (g i j) (g' i j)) (h : OpR X f (rI C g')) : OpR X f (LR (dI2 C g)) := OpR.imp h fun x y H Q ⟨α, d, e, st, K, G, F', P, r1, r2, S, q, k⟩ => by
  cases d <;> cases e <;> first
    | exact q.elim
    | (unfold Rep at r1 r2; exact ⟨_, _, r1, r2, q.1, k.here P q.2 S (hg _ _ _ _)⟩)
abbrev T2 : Int → Int → Prop := fun _ _ => True
theorem rI_of {g : Int → Int → V} {f : Value → Value → Sem Value} (h : OpR X f (rI0 g)) : OpR X f (rI T2 g) := OpR.imp h fun x y H Q ⟨i, j, e1, e2, _, q⟩ => ⟨i, j, e1, e2, q⟩
abbrev dSubR : DR2 := dI2 T2 fun i j => .int (i - j)
abbrev dFdivR : DR2 := dI2 (fun _ j => j ≠ 0 ∧ j.natAbs.log2 < 9000) fun i j => .int (i.fdiv j)
abbrev dModR : DR2 := dI2 (fun _ j => j ≠ 0) fun i j => .int (i.fmod j)
abbrev dPowR : DR2 := dI2 CPow fun i j => .int (i ^ j.toNat)
abbrev dLtR : DR2 := dI2 T2 fun i j => .bl (decide (i < j))
abbrev dGtR : DR2 := dI2 T2 fun i j => .bl (decide (j < i))
abbrev dGeR : DR2 := dI2 T2 fun i j => .bl (decide (j ≤ i))
theorem o_sub : OpR X (binaryOp .Sub) (LR dSubR) := opI_of (fun _ _ _ _ => by unfold Rep; rfl) (rI_of op_sub)
theorem o_fdiv : OpR X (binaryOp .FloorDiv) (LR dFdivR) := opI_of (fun _ _ _ _ => by unfold Rep; rfl) (opI fun i j _ _ _ _ _ hc q => floordiv_int hc.1 q (.inl (PyProof.noPylong_of_log2 hc.2)))
theorem o_mod : OpR X (binaryOp .Mod) (LR dModR) := opI_of (fun _ _ _ _ => by unfold Rep; rfl) op_modN
theorem o_pow : OpR X (binaryOp .Pow) (LR dPowR) := opI_of (fun _ _ _ _ => by unfold Rep; rfl) op_pow
theorem o_lt : OpR X (compareOp .Lt) (LR dLtR) := opI_of (fun _ _ _ _ => by unfold Rep; rfl) (rI_of op_lt)
theorem o_gt : OpR X (compareOp .Gt) (LR dGtR) := opI_of (fun _ _ _ _ => by unfold Rep; rfl) (rI_of op_gt)
theorem o_ge : OpR X (compareOp .GtE) (LR dGeR) := opI_of (fun _ _ _ _ => by unfold Rep; rfl) (rI_of op_ge)
def dNegR : DR1 := fun x st K => match x with | .int i => K (.int (-i)) st | _ => False
theorem o_neg : UnR X (unaryOp .USub) (LR1 dNegR) := fun pins s σ H x v Q I rx ⟨α, d, st, K, G, F', P, r, S, q, k⟩ => by
  cases d <;> first
    | exact q.elim
    | (unfold Rep at r; exact un_neg pins s σ H x v Q I rx ⟨_, r, k.here P q S (by unfold Rep; rfl)⟩)
theorem Inv.lstR {pins : List (Addr × Obj)} {σ : L2.St} {H : Hp} {s : Shared} {l : Addr} {xs : List V} (I : Inv X pins σ H s) (h : Rd H l (.lst xs)) :
    xs.length ≤ sizeLine ∧ ∃ (its : List Value) (n : Nat), Vals xs its ∧ xs.length = its.length ∧ s.heap.get? l = some { cls := .type "list", data := .seq its.toArray n } := by
  obtain ⟨z, its, n, r, e⟩ := h.ok I.hok
  exact ⟨z, its, n, r, r.length, e⟩
theorem rd_up {G F H : Hp} (P : Spl G F H) {a : Addr} {u : HO} (h : Rd G a u) : Rd H a u := by
  rcases h with h | ⟨o, h⟩
  · exact .inl (P.get h)
  · exact .inr ⟨o, P.get h⟩
theorem op_catR : OpR X (binaryOp .Add) (fun x y H Q => ∃ l b xs zs, x = .ref l ∧ y = .ref b ∧ Rd H l (.lst xs) ∧ Rd H b (.lst zs) ∧ xs.length + zs.length ≤ sizeLine ∧ ∀ p, H p = none → Q (.ref p) (upd H p (.lst (xs ++ zs)))) := by
  intro pins s σ H x y v u Q I rx ry h
  obtain ⟨l, b, xs, zs, rfl, rfl, hH, hB, hz, q⟩ := h
  cases rx
  cases ry
  obtain ⟨z, its, n, r, hl, e⟩ := Inv.lstR I hH
  obtain ⟨z2, its2, n2, r2, hl2, e2⟩ := Inv.lstR I hB
  refine PySem.P.add_list e e2 ?_ (by rw [List.size_toArray, List.size_toArray]; omega)
  have ea : its.toArray ++ its2.toArray = (its ++ its2).toArray := by simp
  rw [ea]
  exact ⟨.ref _, _, I.lnew (t' := s.toks) (r.append r2) (by rw [List.length_append]; omega), rfl, q _ I.fresh⟩
theorem op_repR : OpR X (binaryOp .Mult) (fun x y H Q => ∃ l k xs, x = .ref l ∧ y = .int k ∧ Rd H l (.lst xs) ∧ -(2 ^ 63) ≤ k ∧ k < 2 ^ 63 ∧ xs.length * k.toNat ≤ sizeLine ∧
    ∀ p, H p = none → Q (.ref p) (upd H p (.lst (List.replicate k.toNat xs).flatten))) := by
  intro pins s σ H x y v u Q I rx ry h
  obtain ⟨l, k, xs, rfl, rfl, hH, h1, h2, hz, q⟩ := h
  cases rx
  obtain ⟨t, rfl⟩ := ry
  obtain ⟨z, its, n, r, hl, e⟩ := Inv.lstR I hH
  have hlen : its.toArray.size * k.toNat ≤ sizeLine := by rw [List.size_toArray, ← hl]; exact hz
  have hcap : ¬ its.toArray.size * k.toNat > (2 ^ 63 - 1) / 8 := by
    have : (sizeLine : Nat) ≤ (2 ^ 63 - 1) / 8 := by decide
    omega
  have hfit : ¬ (!Builtin.List.listFitsIndex k) = true := by
    rw [fitsIndex_both h1 h2]
    exact Bool.false_ne_true
  have hlong : ¬ Builtin.List.listTooLong (its.toArray.size * k.toNat) = true := by
    rw [notLongL hlen]
    exact Bool.false_ne_true
  have hnew : List.foldl (fun x1 x2 => x1 ++ x2) #[] (List.replicate (if its.toArray.isEmpty = true then 0 else k.toNat) its.toArray) = (List.replicate k.toNat its).flatten.toArray := by
    have f0 : ∀ m : Nat, List.foldl (fun x1 x2 => x1 ++ x2) #[] (List.replicate m its.toArray) = (List.replicate m its).flatten.toArray := fun m => by
      have := foldl_rep its m []
      rw [List.nil_append] at this
      exact this
    rw [f0]
    cases its with
    | nil => simp
    | cons a r' => rw [if_neg (by simp)]
  refine wpAny_binaryOp_repeat_ref (T := "list") (U := "int") (by decide) ⟨_, e, rfl⟩ (fun s' => typeIs_int s' k t) noFill_list_mul F.fills_int_mul F.slot_int_rmul repeat_list F.slot_int_index.lookup
    (call_meets F.slot_int_rmul (typeIs_int s k t) F.entry_int_rmul (F.args_int_rmul_2 _ _) (int___rmul___int_list k t l its.toArray n)
      ⟨e, rfl, ⟨_, e, rfl⟩, call_meets F.slot_list_mul ⟨_, e, rfl⟩ F.entry_list_mul (F.args_list_mul_2 _ _) (AutoListH.list___mul___list_int_3 l its.toArray n k t hfit hcap hlong) ⟨e, ?_⟩⟩)
  rw [hnew]
  exact ⟨.ref _, _, I.lnew (t' := s.toks) (r.rep k.toNat) (by rw [len_rep, Nat.mul_comm]; exact hz), rfl, q _ I.fresh⟩
theorem op_catTE : OpR X (binaryOp .Add) (fun x y H Q => ∃ a b xs ys, x = .ref a ∧ y = .ref b ∧ H a = some (.tup xs) ∧ H b = some (.tup ys) ∧ xs.length + ys.length ≤ sizeLine ∧
    (xs = [] → Q (.ref b) H) ∧ (xs ≠ [] → ys = [] → Q (.ref a) H) ∧ (xs ≠ [] → ys ≠ [] → ∀ p, H p = none → Q (.ref p) (upd H p (.tup (xs ++ ys))))) := by
  intro pins s σ H x y v u Q I rx ry h
  obtain ⟨a, b, xs, ys, rfl, rfl, ha, hb, hz, q0, q1, q2⟩ := h
  by_cases hx : xs = []
  · cases rx
    cases ry
    obtain ⟨its, r1, p1, _⟩ := I.tuple (.of ha)
    obtain ⟨its2, r2, p2, _⟩ := I.tuple (.of hb)
    obtain ⟨⟨cls, dd, data, sl⟩, ho, hc, n, hd⟩ := id p1
    obtain ⟨⟨cls2, dd2, data2, sl2⟩, ho2, hc2, n2, hd2⟩ := id p2
    simp only at hc hd hc2 hd2
    subst hc hd hc2 hd2
    have hi : its = [] := (L2.Vals.nil_iff r1).mpr hx
    exact concat_meets ⟨_, ho, rfl⟩ ⟨_, ho2, rfl⟩ noFill_tuple_add seq_tuple_add PySem.F.slot_tuple_add PySem.F.entry_tuple_add (PySem.F.args_tuple_add_2 _ _)
      (tuple_addW0 a b its.toArray its2.toArray n n2 dd dd2 sl sl2 (by simp [hi])) ⟨ho, ho2, ⟨.ref b, H, I, rfl, q0 hx⟩⟩
  · exact op_catT pins s σ H _ _ v u Q I rx ry ⟨a, b, xs, ys, rfl, rfl, .of ha, .of hb, hx, hz, q1 hx, q2 hx⟩
theorem noFill_tup_mul : fillsNumberSlot (.type "tuple") "mul" = pure false :=
  PySem.fillsNumberSlot_seq (id := "tuple.__mul__") (r := some (.builtin "tuple.__rmul__")) F.slot_tuple_mul.lookup (by decide +kernel) F.slot_tuple_rmul.lookup (by decide +kernel)
theorem repeat_tup : seqRepeat? (.type "tuple") = pure (some (.builtin "tuple.__mul__")) := by
  unfold seqRepeat?
  rw [PySem.seqSlot_of (T := "tuple") (name := "__mul__") (id := "tuple.__mul__") F.slot_tuple_mul.lookup (by decide +kernel), PySem.seqSlot_of (T := "tuple") (name := "__rmul__") (id := "tuple.__rmul__") F.slot_tuple_rmul.lookup (by decide +kernel)]
  rfl
theorem rmul_int_tup (a : Int) (t : Tok) (l : Addr) (its : Array Value) (n : Nat) (dd : Option Addr) (sl : Array (Option Value)) : Meets (Builtin.«int.__rmul__» ⟨[.int a t, .ref l], []⟩) (fun _ R s => s.heap.get? l = some { cls := .type "tuple", dict := dd, data := .seq its n, slots := sl } ∧ R (.ok (.ret Value.notImplemented)) s) :=
  .of_wp fun P w A R s h => by
    obtain ⟨hp, g, d, tk, os⟩ := s
    obtain ⟨hl, h⟩ := h
    wp_walk
    exact ⟨_, rfl, h⟩
theorem tup_mul_same (l : Addr) (its : Array Value) (n : Nat) (dd : Option Addr) (sl : Array (Option Value)) (x : Int) (u : Tok) (h0 : (decide (x < -(2 ^ 63)) || decide (x ≥ 2 ^ 63)) = false) (h1 : (its.isEmpty || x == 1) = true) :
    Meets (Builtin.«tuple.__mul__» ⟨[.ref l, .int x u], []⟩) (fun _ R s => s.heap.get? l = some { cls := .type "tuple", dict := dd, data := .seq its n, slots := sl } ∧ R (.ok (.ret (.ref l))) s) :=
  .of_wp fun P w A R s h => by
    obtain ⟨hp, g, d, tk, os⟩ := s
    obtain ⟨hl, h⟩ := h
    wp_walk
    refine wpAny_ite_false (by rw [h0]; rfl) ?_
    wp_walk
    exact ⟨_, rfl, h⟩
theorem tup_mul_none (l : Addr) (its : Array Value) (n : Nat) (dd : Option Addr) (sl : Array (Option Value)) (x : Int) (u : Tok) (h0 : (decide (x < -(2 ^ 63)) || decide (x ≥ 2 ^ 63)) = false) (h1 : (its.isEmpty || x == 1) = false) (h2 : (decide (x ≤ 0) || its.isEmpty) = true) :
    Meets (Builtin.«tuple.__mul__» ⟨[.ref l, .int x u], []⟩) (fun _ R s => s.heap.get? l = some { cls := .type "tuple", dict := dd, data := .seq its n, slots := sl } ∧ R (.ok (.ret (.ref s.heap.objs.size))) { s with heap := s.heap.push { cls := .type "tuple", data := .seq #[] } }) :=
  .of_wp fun P w A R s h => by
    obtain ⟨hp, g, d, tk, os⟩ := s
    obtain ⟨hl, h⟩ := h
    wp_walk
    refine wpAny_ite_false (by rw [h0]; rfl) ?_
    wp_walk
    exact ⟨_, rfl, h⟩
theorem tup_mul_many (l : Addr) (its : Array Value) (n : Nat) (dd : Option Addr) (sl : Array (Option Value)) (x : Int) (u : Tok) (h0 : (decide (x < -(2 ^ 63)) || decide (x ≥ 2 ^ 63)) = false) (h1 : (its.isEmpty || x == 1) = false) (h2 : (decide (x ≤ 0) || its.isEmpty) = false) (h3 : ¬ ((its.size : Int) * x > (2 ^ 63 - 1) / 8)) (h4 : Builtin.Tuple.tupleTooMany (its.size * x) = false)
    (hz : (List.foldl (fun x1 x2 => x1 ++ x2) #[] (List.replicate x.toNat its)).size ≤ sizeLine) :
    Meets (Builtin.«tuple.__mul__» ⟨[.ref l, .int x u], []⟩) (fun _ R s => s.heap.get? l = some { cls := .type "tuple", dict := dd, data := .seq its n, slots := sl } ∧ R (.ok (.ret (.ref s.heap.objs.size))) { s with heap := s.heap.push { cls := .type "tuple", data := .seq (List.foldl (fun x1 x2 => x1 ++ x2) #[] (List.replicate x.toNat its)) } }) :=
  .of_wp fun P w A R s h => by
    obtain ⟨hp, g, d, tk, os⟩ := s
    obtain ⟨hl, h⟩ := h
    wp_walk
    refine wpAny_ite_false (by rw [h0]; rfl) ?_
    wp_walk
    refine wpAny_ite_false (decide_eq_false h3) ?_
    wp_walk
    exact ⟨_, rfl, h⟩
theorem op_repT : OpR X (binaryOp .Mult) (fun x y H Q => ∃ l k xs, x = .ref l ∧ y = .int k ∧ H l = some (.tup xs) ∧ -(2 ^ 63) ≤ k ∧ k < 2 ^ 63 ∧ xs.length * k.toNat ≤ sizeLine ∧
    ((xs = [] ∨ k = 1) → Q (.ref l) H) ∧ (¬ (xs = [] ∨ k = 1) → ∀ p, H p = none → Q (.ref p) (upd H p (.tup (List.replicate k.toNat xs).flatten)))) := by
  intro pins s σ H x y v u Q I rx ry h
  obtain ⟨l, k, xs, rfl, rfl, hH, h1, h2, hz, q1, q2⟩ := h
  cases rx
  obtain ⟨t, rfl⟩ := ry
  obtain ⟨its, r, p1, _⟩ := I.tuple (.of hH)
  obtain ⟨⟨cls, dd, data, sl⟩, ho, hc, n, hd⟩ := id p1
  simp only at hc hd
  subst hc hd
  have hl : xs.length = its.length := r.length
  have f0 : (decide (k < -(2 ^ 63)) || decide (k ≥ 2 ^ 63)) = false := by
    rw [decide_eq_false (by omega), decide_eq_false (by omega)]; rfl
  refine wpAny_binaryOp_repeat_ref (T := "tuple") (U := "int") (by decide) ⟨_, ho, rfl⟩ (fun s' => typeIs_int s' k t) noFill_tup_mul F.fills_int_mul F.slot_int_rmul repeat_tup F.slot_int_index.lookup
    (call_meets F.slot_int_rmul (typeIs_int s k t) F.entry_int_rmul (F.args_int_rmul_2 _ _) (rmul_int_tup k t l its.toArray n dd sl) ⟨ho, rfl, ⟨_, ho, rfl⟩, ?_⟩)
  by_cases hs : xs = [] ∨ k = 1
  · have f1 : (its.toArray.isEmpty || k == 1) = true := by
      rcases hs with z | z
      · have : its = [] := List.length_eq_zero_iff.mp (by rw [← hl, z]; rfl)
        rw [this]; rfl
      · rw [z]; simp
    exact call_meets F.slot_tuple_mul ⟨_, ho, rfl⟩ F.entry_tuple_mul (F.args_tuple_mul_2 _ _) (tup_mul_same l its.toArray n dd sl k t f0 f1) ⟨ho, ⟨.ref l, H, I, rfl, q1 hs⟩⟩
  · have hne : its ≠ [] := fun z => hs (.inl (List.length_eq_zero_iff.mp (by rw [hl, z]; rfl)))
    have hk1 : k ≠ 1 := fun z => hs (.inr z)
    have e1 : its.toArray.isEmpty = false := by simpa using hne
    have f1 : (its.toArray.isEmpty || k == 1) = false := by rw [e1]; simpa using hk1
    have new : ∀ (us : List Value) (ys : List V), Vals ys us → ys.length ≤ sizeLine → Inv X pins σ (upd H s.heap.objs.size (.tup ys)) { s with heap := s.heap.push { cls := .type "tuple", data := .seq us.toArray } } := fun us ys hv hy =>
      I.laid (t' := s.toks) (fun _ _ q => Heap.get?_push_of_some _ q) (Nat.le_refl _) ⟨hy, us, hv, ⟨_, Heap.get?_push_size _ rfl, rfl, _, rfl⟩⟩
    by_cases h0 : k ≤ 0
    · have f2 : (decide (k ≤ 0) || its.toArray.isEmpty) = true := by rw [decide_eq_true h0]; rfl
      refine call_meets F.slot_tuple_mul ⟨_, ho, rfl⟩ F.entry_tuple_mul (F.args_tuple_mul_2 _ _) (tup_mul_none l its.toArray n dd sl k t f0 f1 f2) ⟨ho, ?_⟩
      have ez : k.toNat = 0 := by omega
      rw [ez] at q2
      exact ⟨.ref _, _, new [] [] .nil (Nat.zero_le _), rfl, q2 hs _ I.fresh⟩
    · have f2 : (decide (k ≤ 0) || its.toArray.isEmpty) = false := by rw [decide_eq_false h0, e1]; rfl
      have hk : (k.toNat : Int) = k := by omega
      have hlen : its.toArray.size * k.toNat ≤ sizeLine := by rw [List.size_toArray, ← hl]; exact hz
      have hsz : ((its.toArray.size : Nat) : Int) * k ≤ (sizeLine : Int) := by
        rw [← hk]
        exact_mod_cast hlen
      have f3 : ¬ (((its.toArray.size : Nat) : Int) * k > (2 ^ 63 - 1) / 8) := by
        have : ((sizeLine : Nat) : Int) ≤ (2 ^ 63 - 1) / 8 := by decide
        omega
      have f4 : Builtin.Tuple.tupleTooMany (((its.toArray.size : Nat) : Int) * k) = false := by
        unfold Builtin.Tuple.tupleTooMany
        exact decide_eq_false (by omega)
      have hnew : List.foldl (fun x1 x2 => x1 ++ x2) #[] (List.replicate k.toNat its.toArray) = (List.replicate k.toNat its).flatten.toArray := by
        have := foldl_rep its k.toNat []
        rw [List.nil_append] at this
        exact this
      have hfl : (List.replicate k.toNat its).flatten.length = its.length * k.toNat := by rw [len_rep, Nat.mul_comm]
      refine call_meets F.slot_tuple_mul ⟨_, ho, rfl⟩ F.entry_tuple_mul (F.args_tuple_mul_2 _ _) (tup_mul_many l its.toArray n dd sl k t f0 f1 f2 f3 f4 (by rw [hnew, List.size_toArray, hfl]; exact hlen)) ⟨ho, ?_⟩
      rw [hnew]
      exact ⟨.ref _, _, new _ _ (r.rep k.toNat) (by rw [len_rep, Nat.mul_comm]; exact hz), rfl, q2 hs _ I.fresh⟩
def dAddR : DR2 := fun x y st K => match x, y with
  | .int i, .int j => K (.int (i + j)) st
  | .tup xs, .tup ys => xs.length + ys.length ≤ sizeLine ∧ K (.tup (xs ++ ys)) st
  | .lst xs, .lst ys => xs.length + ys.length ≤ sizeLine ∧ K (.lst (xs ++ ys)) st
  | .str x, .str y => x.length + y.length ≤ sizeLine ∧ K (.str (x ++ y)) st
  | _, _ => False
theorem o_add : OpR X (binaryOp .Add) (LR dAddR) := fun pins s σ H x y v u Q I rx ry ⟨α, d, e, st, K, G, F', P, r1, r2, S, q, k⟩ => by
  cases d <;> cases e <;> try exact q.elim
  · unfold Rep at r1 r2
    exact op_add pins s σ H x y v u Q I rx ry ⟨_, _, r1, r2, k.here P q S (by unfold Rep; rfl)⟩
  · unfold Rep at r1 r2
    exact op_add_str pins s σ H x y v u Q I rx ry ⟨_, _, r1, r2, q.1, k.here P q.2 S (by unfold Rep; rfl)⟩
  · unfold Rep at r1 r2
    obtain ⟨a, vs, rfl, na, ha, ra⟩ := r1
    obtain ⟨b, ws, rfl, nb, hb, rb⟩ := r2
    refine op_catR pins s σ H _ _ v u Q I rx ry ⟨a, b, vs, ws, rfl, rfl, rd_up P ha, rd_up P hb, by rw [← ra.length, ← rb.length]; exact q.1, fun p hp => ?_⟩
    exact k.lst P q.2 S (reps_paired.mpr (paired_append (reps_paired.mp ra) (reps_paired.mp rb))) hp
  · rename_i xs ys
    unfold Rep at r1 r2
    obtain ⟨a, vs, rfl, na, ha, ra⟩ := r1
    obtain ⟨b, ws, rfl, nb, hb, rb⟩ := r2
    have hl1 := ra.length
    have hl2 := rb.length
    refine op_catTE pins s σ H _ _ v u Q I rx ry ⟨a, b, vs, ws, rfl, rfl, P.get ha, P.get hb, by rw [← hl1, ← hl2]; exact q.1, fun z => ?_, fun _ z => ?_, fun _ _ p hp => ?_⟩
    · refine k.here P q.2 S ?_
      unfold Rep
      have : xs = [] := by rw [z] at hl1; exact List.length_eq_zero_iff.mp hl1
      subst this
      exact ⟨b, ws, rfl, nb, hb, rb⟩
    · refine k.here P q.2 S ?_
      unfold Rep
      have : ys = [] := by rw [z] at hl2; exact List.length_eq_zero_iff.mp hl2
      subst this
      rw [List.append_nil]
      exact ⟨a, vs, rfl, na, ha, ra⟩
    · exact k.tup P q.2 S (reps_paired.mpr (paired_append (reps_paired.mp ra) (reps_paired.mp rb))) hp
def dMulR : DR2 := fun x y st K => match x, y with
  | .int i, .int j => IntMulOk i j ∧ K (.int (i * j)) st
  | .lst xs, .int k => (-(2 ^ 63) ≤ k ∧ k < 2 ^ 63 ∧ xs.length * k.toNat ≤ sizeLine) ∧ K (.lst (List.replicate k.toNat xs).flatten) st
  | .tup xs, .int k => (-(2 ^ 63) ≤ k ∧ k < 2 ^ 63 ∧ xs.length * k.toNat ≤ sizeLine) ∧ K (.tup (List.replicate k.toNat xs).flatten) st
  | _, _ => False
theorem o_mul : OpR X (binaryOp .Mult) (LR dMulR) := fun pins s σ H x y v u Q I rx ry ⟨α, d, e, st, K, G, F', P, r1, r2, S, q, k⟩ => by
  cases d <;> cases e <;> try exact q.elim
  · unfold Rep at r1 r2
    have h : OpR X (binaryOp .Mult) (rI IntMulOk fun i j => .int (i * j)) := opI fun _ _ _ _ _ _ _ hc q => mul_int q hc
    exact h pins s σ H x y v u Q I rx ry ⟨_, _, r1, r2, q.1, k.here P q.2 S (by unfold Rep; rfl)⟩
  · unfold Rep at r1 r2
    obtain ⟨a, vs, rfl, na, ha, ra⟩ := r1
    refine op_repR pins s σ H _ _ v u Q I rx ry ⟨a, _, vs, rfl, r2, rd_up P ha, q.1.1, q.1.2.1, by rw [← ra.length]; exact q.1.2.2, fun p hp => ?_⟩
    exact k.lst P q.2 S (reps_paired.mpr (paired_flat (reps_paired.mp ra) _)) hp
  · rename_i xs m
    have r1' := r1
    unfold Rep at r1 r2
    obtain ⟨a, vs, rfl, na, ha, ra⟩ := r1
    refine op_repT pins s σ H _ _ v u Q I rx ry ⟨a, _, vs, rfl, r2, P.get ha, q.1.1, q.1.2.1, by rw [← ra.length]; exact q.1.2.2, fun hs => ?_, fun _ p hp => k.tup P q.2 S (reps_paired.mpr (paired_flat (reps_paired.mp ra) _)) hp⟩
    have e : (List.replicate m.toNat xs).flatten = xs := by
      rcases hs with z | z
      · have : xs = [] := List.length_eq_zero_iff.mp (by rw [ra.length, z]; rfl)
        rw [this]; simp
      · rw [z]; simp
    have q2 := q.2
    rw [e] at q2
    exact k.here P q2 S r1'
def live (st : Store) : D → Bool
  | .ref n => (match st[n]? with | some (.lst _) => true | some (.ins _ _) => true | _ => false)
  | _ => true
theorem live_ref {α : List (Option Addr)} {H : Hp} {st : Store} {n : Nat} {v : V} (S : StRel α st H) (h : live st (.ref n) = true) (r : Rep α H (.ref n) v) : ∃ a, v = .ref a := by
  unfold live at h
  simp only at h
  split at h
  · rename_i e
    obtain ⟨a, ea, _⟩ := S.lstAt e
    exact ⟨a, rep_at ea r⟩
  · rename_i e
    obtain ⟨a, ea, _⟩ := S.insAt e
    exact ⟨a, rep_at ea r⟩
  · cases h
def dIsNotR : DR2 := fun x y st K => match y with | .non => live st x = true ∧ K (.bl (match x with | .non => false | _ => true)) st | _ => False
theorem o_isnot : OpR X (compareOp .IsNot) (LR dIsNotR) := OpR.imp op_notN fun x y H Q ⟨α, d, e, st, K, G, F', P, r1, r2, S, q, k⟩ => by
  cases e <;> try exact q.elim
  unfold Rep at r2
  refine ⟨r2, k.here P q.2 S ?_⟩
  unfold Rep
  cases d
  case ref n =>
    obtain ⟨a, rfl⟩ := live_ref S q.1 r1
    rfl
  all_goals (unfold Rep at r1; first | (rw [r1]; rfl) | (obtain ⟨a, vs, rfl, _⟩ := r1; rfl))
def dIxR : DR2 := fun x y st K => match y with
  | .int i => (match x with
    | .lst xs => (match atI xs i with | some d => K d st | none => False)
    | .tup xs => (match atI xs i with | some d => K d st | none => False)
    | .ref n => (match st[n]? with | some (.lst xs) => (match atI xs i with | some d => K d st | none => False) | _ => False)
    | _ => False)
  | _ => False
theorem Reps.atI {α : List (Option Addr)} {H : Hp} {ds : List D} {vs : List V} {i : Int} {d : D} (h : Reps α H ds vs) (e : L2.atI ds i = some d) : ∃ v, L2.atI vs i = some v ∧ Rep α H d v := by
  unfold L2.atI at e ⊢
  rw [← h.length]
  cases q : ixN ds.length i with
  | none => rw [q] at e; cases e
  | some j => rw [q] at e; exact h.get e
theorem i_ix : IxR X (LR dIxR) := fun value slice pins s σ H x y v u Q I rx ry ⟨α, d, e, st, K, G, F', P, r1, r2, S, q, k⟩ hs => by
  cases e <;> try exact q.elim
  unfold Rep at r2
  cases d <;> try exact q.elim
  · rename_i i n
    unfold dIxR at q
    simp only at q
    split at q
    · split at q
      · rename_i xs e1 _ d' e2
        obtain ⟨a, ea, vs, hv, rv⟩ := S.lstAt e1
        have r1' := rep_at ea r1
        subst r1'
        obtain ⟨z, ez, rz⟩ := rv.atI e2
        exact ix_list value slice pins s σ H _ _ v u Q I rx ry ⟨a, vs, _, z, rfl, r2, .of (P.get hv), ez, k.here P q S rz⟩ hs
      · exact q.elim
    · exact q.elim
  · unfold dIxR at q
    simp only at q
    split at q
    · rename_i xs d' e2
      unfold Rep at r1
      obtain ⟨a, vs, rfl, na, ha, ra⟩ := r1
      obtain ⟨z, ez, rz⟩ := ra.atI e2
      exact ix_list value slice pins s σ H _ _ v u Q I rx ry ⟨a, vs, _, z, rfl, r2, .inl (rd_up P ha), ez, k.here P q S rz⟩ hs
    · exact q.elim
  · unfold dIxR at q
    simp only at q
    split at q
    · rename_i xs d' e2
      unfold Rep at r1
      obtain ⟨a, vs, rfl, na, ha, ra⟩ := r1
      obtain ⟨z, ez, rz⟩ := ra.atI e2
      exact ix_tup value slice pins s σ H _ _ v u Q I rx ry ⟨a, vs, _, z, rfl, r2, .of (P.get ha), ez, k.here P q S rz⟩ hs
    · exact q.elim
theorem d_ix {a b : Expr} {ta tb : DE} {pos : Pos} (ha : PE X a (LE ta)) (hb : PE X b (LE tb)) (hs : PlainIx b := by intro _ _; rfl) : PE X (.Subscript a b pos) (LE (dOp dIxR ta tb)) := PE.imp (pe_ix i_ix ha hb hs) fun _ _ _ h => LE.op h
end
end L3
namespace L3
open PySem PySem.Spec L2
open PyProof.Rows hiding St
section
variable {X : Cx}
def items? (st : Store) : D → Option (List D)
  | .lst xs => some xs
  | .tup xs => some xs
  | .ref n => (match st[n]? with | some (.lst xs) => some xs | _ => none)
  | _ => none
@[simp] theorem items_lst (st : Store) (xs : List D) : items? st (.lst xs) = some xs := rfl
@[simp] theorem items_tup (st : Store) (xs : List D) : items? st (.tup xs) = some xs := rfl
@[simp] theorem items_int (st : Store) (i : Int) : items? st (.int i) = none := rfl
@[simp] theorem items_bl (st : Store) (i : Bool) : items? st (.bl i) = none := rfl
@[simp] theorem items_str (st : Store) (i : Str) : items? st (.str i) = none := rfl
@[simp] theorem items_non (st : Store) : items? st .non = none := rfl
theorem items_ref {st : Store} {n : Nat} {xs : List D} (h : st[n]? = some (.lst xs)) : items? st (.ref n) = some xs := by unfold items?; simp only [h]
theorem items_rep {α : List (Option Addr)} {H : Hp} {st : Store} {d : D} {v : V} {xs : List D} (S : StRel α st H) (r : Rep α H d v) (e : items? st d = some xs) :
    ∃ p vs, v = .ref p ∧ Reps α H xs vs ∧ (Rd H p (.lst vs) ∨ H p = some (.tup vs)) := by
  cases d <;> try (cases e; done)
  · unfold items? at e
    simp only at e
    split at e
    · rename_i ys q
      cases e
      obtain ⟨a, ea, vs, h1, h2⟩ := S.lstAt q
      have r' := rep_at ea r
      subst r'
      exact ⟨a, vs, rfl, h2, .inl (.of h1)⟩
    · cases e
  · cases e
    unfold Rep at r
    obtain ⟨a, vs, rfl, _, h1, h2⟩ := r
    exact ⟨a, vs, rfl, h2, .inl h1⟩
  · cases e
    unfold Rep at r
    obtain ⟨a, vs, rfl, _, h1, h2⟩ := r
    exact ⟨a, vs, rfl, h2, .inr h1⟩
theorem sq_of {K : PySem.W.Frag} {G F H : Hp} (P : Spl G F H) {p : Addr} {vs : List V} (h : Rd G p (.lst vs) ∨ G p = some (.tup vs)) : SqL K H p vs ∨ SqT K H p vs := h.elim (fun z => .inl (.inl (rd_up P z))) fun z => .inr (.of (P.get z))
theorem reps1 {α : List (Option Addr)} {H : Hp} {ds : List D} {xs : List V} {d : D} (r : Reps α H ds xs) (e : ds = [d]) : ∃ v, xs = [v] ∧ Rep α H d v := by
  subst e
  unfold Reps at r
  obtain ⟨v, q, rfl, h1, h2⟩ := r
  unfold Reps at h2
  subst h2
  exact ⟨v, rfl, h1⟩
theorem reps2 {α : List (Option Addr)} {H : Hp} {ds : List D} {xs : List V} {d e : D} (r : Reps α H ds xs) (q : ds = [d, e]) : ∃ v u, xs = [v, u] ∧ Rep α H d v ∧ Rep α H e u := by
  subst q
  unfold Reps at r
  obtain ⟨v, q, rfl, h1, h2⟩ := r
  obtain ⟨u, rfl, h3⟩ := reps1 h2 rfl
  exact ⟨v, u, rfl, h1, h3⟩
def dLenR : DRA := fun ds st K => match ds with
  | [.str x] => x.length ≤ sizeLine ∧ K (.int x.length) st
  | [d] => (match items? st d with | some xs => K (.int xs.length) st | none => False)
  | _ => False
theorem c_len : CallR X (.builtin "len") (LRA dLenR) := fun pins s σ H xs us Q I rs ⟨α, ds, st, K, G, F', P, r, S, q, k⟩ => by
  unfold dLenR at q
  split at q
  · rename_i x
    obtain ⟨v, rfl, r1⟩ := reps1 r rfl
    unfold Rep at r1
    subst r1
    exact call_len_str pins s σ H _ us Q I rs ⟨x, rfl, q.1, k.here P q.2 S (by unfold Rep; rfl)⟩
  · rename_i d _
    split at q
    · rename_i ys e
      obtain ⟨v, rfl, r1⟩ := reps1 r rfl
      obtain ⟨p, vs, rfl, r2, h⟩ := items_rep S r1 e
      refine call_len_seq pins s σ H _ us Q I rs ⟨p, vs, rfl, sq_of P h, k.here P q S (by unfold Rep; rw [r2.length])⟩
    · exact q.elim
  · exact q.elim
def dI1 (g : Int → Int) : DRA := fun ds st K => match ds with | [.int i] => K (.int (g i)) st | _ => False
abbrev dAbsR : DRA := dI1 fun i => if i < 0 then -i else i
theorem c_abs : CallR X (.builtin "abs") (LRA dAbsR) := CallR.imp call_abs fun xs H Q ⟨α, ds, st, K, G, F', P, r, S, q, k⟩ => by
  unfold dAbsR dI1 at q
  split at q
  · obtain ⟨v, rfl, r1⟩ := reps1 r rfl
    unfold Rep at r1
    subst r1
    exact ⟨_, rfl, k.here P q S (by unfold Rep; rfl)⟩
  · exact q.elim
def dI2A (g : Int → Int → Int) : DRA := fun ds st K => match ds with | [.int i, .int j] => K (.int (g i j)) st | _ => False
abbrev dMaxR : DRA := dI2A fun i j => if j > i then j else i
abbrev dMinR : DRA := dI2A fun i j => if j < i then j else i
theorem c_max (hc : X.calm = true) : CallR X (.builtin "max") (LRA dMaxR) := CallR.imp (call_max2 hc) fun xs H Q ⟨α, ds, st, K, G, F', P, r, S, q, k⟩ => by
  unfold dMaxR dI2A at q
  split at q
  · obtain ⟨v, u, rfl, r1, r2⟩ := reps2 r rfl
    unfold Rep at r1 r2
    subst r1 r2
    exact ⟨_, _, rfl, k.here P q S (by unfold Rep; rfl)⟩
  · exact q.elim
theorem c_min (hc : X.calm = true) : CallR X (.builtin "min") (LRA dMinR) := CallR.imp (call_min2 hc) fun xs H Q ⟨α, ds, st, K, G, F', P, r, S, q, k⟩ => by
  unfold dMinR dI2A at q
  split at q
  · obtain ⟨v, u, rfl, r1, r2⟩ := reps2 r rfl
    unfold Rep at r1 r2
    subst r1 r2
    exact ⟨_, _, rfl, k.here P q S (by unfold Rep; rfl)⟩
  · exact q.elim
def dIntR : DRA := fun ds st K => match ds with | [.int i] => K (.int i) st | [.bl b] => K (.int (if b then 1 else 0)) st | _ => False
theorem c_int : CallR X (.type "int") (LRA dIntR) := CallR.imp call_int1 fun xs H Q ⟨α, ds, st, K, G, F', P, r, S, q, k⟩ => by
  unfold dIntR at q
  split at q
  · obtain ⟨v, rfl, r1⟩ := reps1 r rfl
    unfold Rep at r1
    subst r1
    exact .inl ⟨_, rfl, k.here P q S (by unfold Rep; rfl)⟩
  · obtain ⟨v, rfl, r1⟩ := reps1 r rfl
    unfold Rep at r1
    subst r1
    exact .inr ⟨_, rfl, k.here P q S (by unfold Rep; rfl)⟩
  · exact q.elim
def dTupleR : DRA := fun ds st K => match ds with | [d] => (match items? st d with | some xs => K (.tup xs) st | none => False) | _ => False
theorem c_tuple : CallR X (.type "tuple") (LRA dTupleR) := CallR.imp call_tuple_of fun xs H Q ⟨α, ds, st, K, G, F', P, r, S, q, k⟩ => by
  unfold dTupleR at q
  split at q
  · rename_i d
    split at q
    · rename_i ys e
      obtain ⟨v, rfl, r1⟩ := reps1 r rfl
      cases d with
      | tup zs =>
        cases e
        have r0 := r1
        unfold Rep at r1
        obtain ⟨a, vs, rfl, na, h1, h2⟩ := r1
        exact ⟨a, vs, rfl, .inr ⟨.of (P.get h1), k.here P q S r0⟩⟩
      | _ =>
        obtain ⟨p, vs, rfl, r2, h⟩ := items_rep S r1 e
        refine ⟨p, vs, rfl, ?_⟩
        rcases h with h | h
        · exact .inl ⟨.inl (rd_up P h), fun l hl => k.tup P q S r2 hl⟩
        · first
            | (cases e; done)
            | (exfalso
               unfold items? at e
               simp only at e
               first
                 | (split at e
                    · rename_i z
                      obtain ⟨a, ea, vs', h1, h2⟩ := S.lstAt z
                      have e' := rep_at ea r1
                      cases e'
                      rw [h] at h1; cases h1
                    · cases e)
                 | (unfold Rep at r1
                    obtain ⟨a, vs', e', _, h1, _⟩ := r1
                    cases e'
                    rcases h1 with h1 | ⟨o, h1⟩ <;> (rw [h] at h1; cases h1)))
    · exact q.elim
  · exact q.elim
def dListR : DRA := fun ds st K => match ds with | [d] => (match items? st d with | some xs => K (.lst xs) st | none => False) | _ => False
theorem c_list : CallR X (.type "list") (LRA dListR) := CallR.imp call_list_of fun xs H Q ⟨α, ds, st, K, G, F', P, r, S, q, k⟩ => by
  unfold dListR at q
  split at q
  · split at q
    · rename_i ys e
      obtain ⟨v, rfl, r1⟩ := reps1 r rfl
      obtain ⟨p, vs, rfl, r2, h⟩ := items_rep S r1 e
      exact ⟨p, vs, rfl, sq_of P h, fun l hl => k.lst P q S r2 hl⟩
    · exact q.elim
  · exact q.elim
def bools? : List D → Option (List Bool)
  | [] => some []
  | .bl b :: r => (bools? r).map (b :: ·)
  | _ :: _ => none
def ints? : List D → Option (List Int)
  | [] => some []
  | .int b :: r => (ints? r).map (b :: ·)
  | _ :: _ => none
theorem bools_reps {α : List (Option Addr)} {H : Hp} : ∀ {ds : List D} {vs : List V} {bs : List Bool}, Reps α H ds vs → bools? ds = some bs → vs = bs.map V.bl
  | [], vs, bs, r, e => by
    unfold Reps at r
    cases e
    exact r
  | d :: ds, vs, bs, r, e => by
    unfold Reps at r
    obtain ⟨v, q, rfl, h1, h2⟩ := r
    cases d <;> try (cases e; done)
    unfold bools? at e
    cases z : bools? ds with
    | none => rw [z] at e; cases e
    | some cs =>
      rw [z] at e
      cases e
      unfold Rep at h1
      rw [h1, bools_reps h2 z]
      rfl
theorem ints_reps {α : List (Option Addr)} {H : Hp} : ∀ {ds : List D} {vs : List V} {bs : List Int}, Reps α H ds vs → ints? ds = some bs → vs = bs.map V.int
  | [], vs, bs, r, e => by
    unfold Reps at r
    cases e
    exact r
  | d :: ds, vs, bs, r, e => by
    unfold Reps at r
    obtain ⟨v, q, rfl, h1, h2⟩ := r
    cases d <;> try (cases e; done)
    unfold ints? at e
    cases z : ints? ds with
    | none => rw [z] at e; cases e
    | some cs =>
      rw [z] at e
      cases e
      unfold Rep at h1
      rw [h1, ints_reps h2 z]
      rfl
theorem vals_bools : ∀ {bs : List Bool} {us : List Value}, Vals (bs.map V.bl) us → us = bs.map Value.bool
  | [], _, .nil => rfl
  | b :: bs, _, .cons h t => by
    have h : _ = Value.bool b := h
    rw [h, vals_bools t]
    rfl
end
end L3
namespace L3
open PySem PySem.Spec L2
open PyProof.Rows hiding St
section
variable {X : Cx}
def dAllR : DRA := fun ds st K => match ds with | [.lst xs] => (match bools? xs with | some bs => K (.bl (bs.all id)) st | none => False) | _ => False
theorem range_all {α : Type} (l : List α) (f : α → Bool) (tr : Nat → Bool) (h : ∀ i x, l[i]? = some x → tr i = f x) : (List.range l.length).all tr = l.all f := by
  induction l generalizing tr with
  | nil => rfl
  | cons a l ih =>
    rw [List.length_cons, List.range_succ_eq_map, List.all_cons, List.all_cons, List.all_map, h 0 a rfl]
    congr 1
    exact ih (tr ∘ Nat.succ) fun i x e => h (i + 1) x (by simpa using e)
theorem c_all (hc : X.calm = true) : CallR X (.builtin "all") (LRA dAllR) := fun pins s σ H xs us Q I rs ⟨α, ds, st, K, G, F', P, r, S, q, k⟩ => by
  unfold dAllR at q
  split at q
  · rename_i ys
    split at q
    · rename_i bs e
      obtain ⟨v, rfl, r1⟩ := reps1 r rfl
      unfold Rep at r1
      obtain ⟨a, vs, rfl, na, h1, h2⟩ := r1
      obtain ⟨u, rfl, ru⟩ := vals1 rs
      cases ru
      have hv := bools_reps h2 e
      subst hv
      obtain ⟨z, its, n, rv, hl, eo⟩ := Inv.lstR I (rd_up P h1)
      have hits := vals_bools rv
      subst hits
      have isL : s.heap.IsList a (bs.map Value.bool).toArray := ⟨_, eo, rfl, n, rfl⟩
      refine call_all_walk (wpAny_pyIter_list isL ?_)
      have hne : a ≠ s.heap.objs.size := Nat.ne_of_lt (Heap.lt_size eo)
      refine ⟨s.heap.objs.size, _, _, _, _, _, fun i => (bs[i]?).getD true, rfl, Walks.list (A := X.A.in1) (I.ok.hd hc) _ a hne (bs.map Value.bool).toArray, ⟨⟨_, Heap.get?_push_size _ rfl, rfl, rfl⟩, ⟨_, Heap.get?_push_of_some _ eo, rfl, n, rfl⟩⟩, ?_, ?_⟩
      · intro i w s' Q' E' hP hQ
        rw [List.getElem?_toArray, List.getElem?_map] at hP
        cases zb : bs[i]? with
        | none => rw [zb] at hP; cases hP
        | some b =>
          rw [zb] at hP
          cases hP
          simp only [zb] at hQ
          exact wpAny_truthy_bool hQ
      · intro h' tk hk
        have kp : ∀ b o, s.heap.get? b = some o → h'.get? b = some o := fun b o q => hk b o (by
          intro hb
          have : b = s.heap.objs.size := by simpa using hb
          exact absurd (Heap.lt_size q) (by rw [this]; exact Nat.lt_irrefl _)) (Heap.get?_push_of_some _ q)
        have ea : (List.range (bs.map Value.bool).toArray.size).all (fun i => (bs[i]?).getD true) = bs.all id := by
          rw [List.size_toArray, List.length_map]
          exact range_all bs id _ fun i x e => by rw [e]; rfl
        rw [ea]
        exact ⟨.bl (bs.all id), H, I.kept (t' := tk) kp, rfl, k.here P q S (by unfold Rep; rfl)⟩
    · exact q.elim
  · exact q.elim
def tyOf? (st : Store) : D → Option String
  | .non => some "NoneType"
  | .bl _ => some "bool"
  | .int _ => some "int"
  | .str _ => some "str"
  | .lst _ => some "list"
  | .tup _ => some "tuple"
  | .ref n => (match st[n]? with | some (.lst _) => some "list" | _ => none)
  | .ty _ => none
@[simp] theorem ty_lst (st : Store) (xs : List D) : tyOf? st (.lst xs) = some "list" := rfl
@[simp] theorem ty_tup (st : Store) (xs : List D) : tyOf? st (.tup xs) = some "tuple" := rfl
@[simp] theorem ty_int (st : Store) (i : Int) : tyOf? st (.int i) = some "int" := rfl
@[simp] theorem ty_bl (st : Store) (i : Bool) : tyOf? st (.bl i) = some "bool" := rfl
@[simp] theorem ty_str (st : Store) (i : Str) : tyOf? st (.str i) = some "str" := rfl
@[simp] theorem ty_non (st : Store) : tyOf? st .non = some "NoneType" := rfl
def isTy (t c : String) : Bool := t == c || (t == "bool" && c == "int")
theorem tyOf_rep {α : List (Option Addr)} {H : Hp} {st : Store} {K : PySem.W.Frag} {d : D} {v : V} {t : String} (S : StRel α st H) (r : Rep α H d v) (e : tyOf? st d = some t) : TyOf K H v (.type t) := by
  cases d <;> unfold tyOf? at e <;> try (cases e; done)
  · unfold Rep at r; cases e; subst r; exact .non
  · unfold Rep at r; cases e; subst r; exact .bl _
  · unfold Rep at r; cases e; subst r; exact .int _
  · unfold Rep at r; cases e; subst r; exact .str _
  · simp only at e
    split at e
    · rename_i z
      cases e
      obtain ⟨a, ea, vs', h1, h2⟩ := S.lstAt z
      have r' := rep_at ea r
      subst r'
      exact .lst h1
    · cases e
  · cases e
    unfold Rep at r
    obtain ⟨a, vs, rfl, na, h1, h2⟩ := r
    rcases h1 with h1 | ⟨o, h1⟩
    · exact .lst h1
    · exact .frz h1
  · cases e
    unfold Rep at r
    obtain ⟨a, vs, rfl, na, h1, h2⟩ := r
    exact .tup h1
theorem tyOf_up {G F H : Hp} {K : PySem.W.Frag} (P : Spl G F H) {x : V} {t : Value} (h : TyOf K G x t) : TyOf K H x t := by
  cases h with
  | non => exact .non
  | bl x => exact .bl x
  | int x => exact .int x
  | str x => exact .str x
  | flt x => exact .flt x
  | lst e => exact .lst (P.get e)
  | frz e => exact .frz (P.get e)
  | tup e => exact .tup (P.get e)
  | dK e => exact .dK (P.get e)
  | dT e => exact .dT (P.get e)
  | ins e a b c d f => exact .ins (P.get e) a b c d f
def tyNames : List String := ["NoneType", "bool", "int", "str", "list", "tuple"]
def clNames : List String := ["bool", "int", "str", "list", "tuple"]
theorem kit_tab (K : PySem.W.Frag) {t c : String} (ht : t ∈ tyNames) (hc : c ∈ clNames) : PySem.W.kitOne K (.type t) (.type c) = some (isTy t c) := by
  simp only [tyNames, clNames, List.mem_cons, List.not_mem_nil, or_false] at ht hc
  rcases ht with rfl | rfl | rfl | rfl | rfl | rfl <;> rcases hc with rfl | rfl | rfl | rfl | rfl <;> with_unfolding_all rfl
theorem tyOf_mem {st : Store} {d : D} {t : String} (e : tyOf? st d = some t) : t ∈ tyNames := by
  cases d <;> unfold tyOf? at e <;> first
    | (cases e; done)
    | (cases e; decide)
    | (simp only at e; split at e <;> cases e; decide)
theorem kitx_of {pins : List (Addr × Obj)} {σ : L2.St} {H : Hp} {s : Shared} {x : V} {u : Value} {t : String} (I : Inv X pins σ H s) (rx : RelV x u) (ty : TyOf X.K H x (.type t)) :
    ∃ Hh : Heap → Prop, PySem.W.KitX X.K u (.type t) Hh ∧ Hh s.heap ∧ u ≠ .builtin "__main__.__loader__#opaque" := by
  cases ty with
  | non => cases (show u = Value.none from rx); exact ⟨_, PySem.W.kitx_none, True.intro, fun z => nomatch z⟩
  | bl y => cases (show u = Value.bool y from rx); exact ⟨_, PySem.W.kitx_bool, True.intro, fun z => nomatch z⟩
  | int i => obtain ⟨t, q⟩ := (show ∃ t, u = Value.int i t from rx); cases q; exact ⟨_, PySem.W.kitx_int, True.intro, fun z => nomatch z⟩
  | str y => obtain ⟨t, q⟩ := (show ∃ t, u = Value.str y t from rx); cases q; exact ⟨_, PySem.W.kitx_str, True.intro, fun z => nomatch z⟩
  | flt y => obtain ⟨t, q⟩ := (show ∃ t, u = Value.float y t from rx); cases q; exact ⟨_, PySem.W.kitx_float, True.intro, fun z => nomatch z⟩
  | @lst a xs ea =>
    cases (show u = Value.ref a from rx)
    obtain ⟨_, _, n, _, h1⟩ := (show ObjOk X.prog X.w H s.heap a (.lst xs) from I.hok a _ ea)
    exact ⟨_, PySem.W.kitx_list, ⟨_, h1, rfl⟩, fun z => nomatch z⟩
  | @frz a ob xs ea =>
    cases (show u = Value.ref a from rx)
    obtain ⟨_, _, _, n, _, h1⟩ := (show ObjOk X.prog X.w H s.heap a (.frz ob (.lst xs)) from I.hok a _ ea)
    exact ⟨_, PySem.W.kitx_list, ⟨_, h1, rfl⟩, fun z => nomatch z⟩
  | @tup a xs ea =>
    cases (show u = Value.ref a from rx)
    obtain ⟨_, _, _, p⟩ := (show ObjOk X.prog X.w H s.heap a (.tup xs) from I.hok a _ ea)
    obtain ⟨o, h1, h2, _⟩ := p
    exact ⟨_, PySem.W.kitx_tuple, ⟨o, h1, h2⟩, fun z => nomatch z⟩
  | @dK a kvs ea =>
    cases (show u = Value.ref a from rx)
    obtain ⟨_, _, vs, _, p⟩ := (show ObjOk X.prog X.w H s.heap a (.dK kvs) from I.hok a _ ea)
    obtain ⟨o, es, ep, h1, h2, _⟩ := p
    exact ⟨_, PySem.W.kitx_dict, ⟨o, h1, h2.1⟩, fun z => nomatch z⟩
  | @dT a kvs ea =>
    cases (show u = Value.ref a from rx)
    obtain ⟨_, _, xs, _, o, es, ep, h1, h2, _⟩ := (show ObjOk X.prog X.w H s.heap a (.dT kvs) from I.hok a _ ea)
    exact ⟨_, PySem.W.kitx_dict, ⟨o, h1, h2.1⟩, fun z => nomatch z⟩
def tyList? : List D → Option (List String)
  | [] => some []
  | .ty b :: r => (tyList? r).map (b :: ·)
  | _ :: _ => none
theorem tys_reps {α : List (Option Addr)} {H : Hp} : ∀ {ds : List D} {vs : List V} {bs : List String}, Reps α H ds vs → tyList? ds = some bs → vs = bs.map V.ty
  | [], vs, bs, r, e => by
    unfold Reps at r
    cases e
    exact r
  | d :: ds, vs, bs, r, e => by
    unfold Reps at r
    obtain ⟨v, q, rfl, h1, h2⟩ := r
    cases d <;> try (cases e; done)
    unfold tyList? at e
    cases z : tyList? ds with
    | none => rw [z] at e; cases e
    | some cs =>
      rw [z] at e
      cases e
      unfold Rep at h1
      rw [h1, tys_reps h2 z]
      rfl
theorem vals_tys : ∀ {bs : List String} {us : List Value}, Vals (bs.map V.ty) us → us = bs.map Value.type
  | [], _, .nil => rfl
  | b :: bs, _, .cons h t => by
    have h : _ = Value.type b := h
    rw [h, vals_tys t]
    rfl
theorem kit_any (K : PySem.W.Frag) {t : String} (ht : t ∈ tyNames) : ∀ cs : List String, (∀ c ∈ cs, c ∈ clNames) → PySem.W.kitAny K (.type t) (cs.map Value.type) = some (cs.any (isTy t))
  | [], _ => rfl
  | c :: cs, h => by
    show (match PySem.W.kitOne K (.type t) (.type c) with | some true => some true | some false => PySem.W.kitAny K (.type t) (cs.map Value.type) | none => none) = _
    rw [kit_tab K ht (h c List.mem_cons_self), List.any_cons]
    cases isTy t c with
    | true => rfl
    | false => exact kit_any K ht cs fun c hc => h c (List.mem_cons_of_mem _ hc)
def dIsiR : DRA := fun ds st K => match ds with
  | [d, .ty c] => (match tyOf? st d with | some t => c ∈ clNames ∧ K (.bl (isTy t c)) st | none => False)
  | [d, .tup cs] => (match tyOf? st d, tyList? cs with | some t, some cl => (∀ c ∈ cl, c ∈ clNames) ∧ K (.bl (cl.any (isTy t))) st | _, _ => False)
  | _ => False
theorem c_isi : CallR X (.builtin "isinstance") (LRA dIsiR) := fun pins s σ H xs us Q I rs ⟨α, ds, st, K, G, F', P, r, S, q, k⟩ => by
  unfold dIsiR at q
  split at q
  · rename_i d c
    split at q
    · rename_i t e
      obtain ⟨v, v2, rfl, r1, r2⟩ := reps2 r rfl
      obtain ⟨u, u2, rfl, ru, ru2⟩ := vals2 rs
      unfold Rep at r2
      subst r2
      cases (show u2 = Value.type c from ru2)
      exact isinst_ok I ru (tyOf_up P (tyOf_rep S r1 e)) (kit_tab _ (tyOf_mem e) q.1) fun tk => ⟨.bl (isTy t c), H, I.tok tk, rfl, k.here P q.2 S (by unfold Rep; rfl)⟩
    · exact q.elim
  · rename_i d cs
    split at q
    · rename_i t cl e ec
      obtain ⟨v, v2, rfl, r1, r2⟩ := reps2 r rfl
      obtain ⟨u, u2, rfl, ru, ru2⟩ := vals2 rs
      unfold Rep at r2
      obtain ⟨a, vs, rfl, na, h1, h2⟩ := r2
      cases (show u2 = Value.ref a from ru2)
      have hv := tys_reps h2 ec
      subst hv
      obtain ⟨Hh, Z, hh, hne⟩ := kitx_of I ru (tyOf_up P (tyOf_rep S r1 e))
      obtain ⟨its, r', pl, hz⟩ := I.tuple (SqT.of (P.get h1))
      have hi := vals_tys r'
      subst hi
      obtain ⟨⟨cls, dd, data, sl⟩, ho, hc, n, hd⟩ := pl
      simp only at hc hd
      subst hc hd
      exact PySem.W.kia_tup Z I.kIn hh ho (kit_any _ (tyOf_mem e) cl q.1) hne fun tk => ⟨.bl _, H, I.tok tk, rfl, k.here P q.2 S (by unfold Rep; rfl)⟩
    · exact q.elim
  · exact q.elim
end
end L3
namespace L3
open PySem PySem.Spec L2 PySem.SeqAt
open PyProof.Rows hiding St
mutual
def eqD : D → D → Bool
  | .non, .non => true
  | .bl a, .bl b => a == b
  | .bl a, .int b => (if a then 1 else 0) == b
  | .int a, .bl b => a == (if b then 1 else 0)
  | .int a, .int b => a == b
  | .str a, .str b => a == b
  | .lst xs, .lst ys => eqDs xs ys
  | .tup xs, .tup ys => eqDs xs ys
  | _, _ => false
def eqDs : List D → List D → Bool
  | [], [] => true
  | x :: xs, y :: ys => eqD x y && eqDs xs ys
  | _, _ => false
end
def pl : Nat → D → Bool
  | _, .non => true
  | _, .bl _ => true
  | _, .int _ => true
  | _, .str _ => true
  | n + 1, .lst xs => xs.all (pl n)
  | n + 1, .tup xs => xs.all (pl n)
  | _, _ => false
mutual
theorem eqD_refl : ∀ (n : Nat) (d : D), pl n d = true → eqD d d = true
  | _, .non, _ => rfl
  | _, .bl _, _ => by simp [eqD]
  | _, .int _, _ => by simp [eqD]
  | _, .str _, _ => by simp [eqD]
  | n + 1, .lst xs, h => by unfold eqD; exact eqDs_refl n xs (by unfold pl at h; exact h)
  | n + 1, .tup xs, h => by unfold eqD; exact eqDs_refl n xs (by unfold pl at h; exact h)
  | 0, .lst xs, h => by cases h
  | 0, .tup xs, h => by cases h
  | _, .ref _, h => by unfold pl at h; cases h
  | _, .ty _, h => by unfold pl at h; cases h
theorem eqDs_refl : ∀ (n : Nat) (xs : List D), xs.all (pl n) = true → eqDs xs xs = true
  | _, [], _ => by unfold eqDs; rfl
  | n, x :: xs, h => by
    rw [List.all_cons, Bool.and_eq_true] at h
    unfold eqDs
    rw [eqD_refl n x h.1, eqDs_refl n xs h.2]
    rfl
end
mutual
theorem Rep.inj {α : List (Option Addr)} {H : Hp} : ∀ {d e : D} {v : V} (n : Nat), pl n d = true → pl n e = true → Rep α H d v → Rep α H e v → d = e
  | .non, e, v, n, _, he, h1, h2 => by
    unfold Rep at h1; subst h1
    cases e <;> first | (unfold pl at he; cases he; done) | (unfold Rep at h2; cases h2; rfl) | (unfold Rep at h2; cases h2; done) | (unfold Rep at h2; obtain ⟨_, _, h2, _⟩ := h2; cases h2) | rfl | (cases h2; done) | (obtain ⟨_, _, h2, _⟩ := h2; cases h2) | (obtain ⟨_, _, h2⟩ := h2; cases h2)
  | .bl b, e, v, n, _, he, h1, h2 => by
    unfold Rep at h1; subst h1
    cases e <;> first | (unfold pl at he; cases he; done) | (unfold Rep at h2; cases h2; rfl) | (unfold Rep at h2; cases h2; done) | (unfold Rep at h2; obtain ⟨_, _, h2, _⟩ := h2; cases h2) | (cases h2; rfl) | (cases h2; done) | (obtain ⟨_, _, h2, _⟩ := h2; cases h2) | (obtain ⟨_, _, h2⟩ := h2; cases h2)
  | .int b, e, v, n, _, he, h1, h2 => by
    unfold Rep at h1; subst h1
    cases e <;> first | (unfold pl at he; cases he; done) | (unfold Rep at h2; cases h2; rfl) | (unfold Rep at h2; cases h2; done) | (unfold Rep at h2; obtain ⟨_, _, h2, _⟩ := h2; cases h2) | (cases h2; rfl) | (cases h2; done) | (obtain ⟨_, _, h2, _⟩ := h2; cases h2) | (obtain ⟨_, _, h2⟩ := h2; cases h2)
  | .str b, e, v, n, _, he, h1, h2 => by
    unfold Rep at h1; subst h1
    cases e <;> first | (unfold pl at he; cases he; done) | (unfold Rep at h2; cases h2; rfl) | (unfold Rep at h2; cases h2; done) | (unfold Rep at h2; obtain ⟨_, _, h2, _⟩ := h2; cases h2) | (cases h2; rfl) | (cases h2; done) | (obtain ⟨_, _, h2, _⟩ := h2; cases h2) | (obtain ⟨_, _, h2⟩ := h2; cases h2)
  | .ty b, e, v, n, hd, he, h1, h2 => by unfold pl at hd; cases hd
  | .ref b, e, v, n, hd, he, h1, h2 => by unfold pl at hd; cases hd
  | .lst xs, e, v, 0, hd, he, h1, h2 => by cases hd
  | .tup xs, e, v, 0, hd, he, h1, h2 => by cases hd
  | .lst xs, e, v, n + 1, hd, he, h1, h2 => by
    unfold Rep at h1
    obtain ⟨a, vs, rfl, na, ha, ra⟩ := h1
    cases e <;> unfold Rep at h2 <;> try (cases h2; done)
    · unfold pl at he; cases he
    · obtain ⟨a', vs', e', na', ha', ra'⟩ := h2
      cases e'
      have : vs = vs' := by
        rcases ha with ha | ⟨o, ha⟩ <;> rcases ha' with ha' | ⟨o', ha'⟩ <;> (rw [ha] at ha'; first | (cases ha'; rfl) | (cases ha'; done))
      subst this
      rw [Reps.inj n (by unfold pl at hd; exact hd) (by unfold pl at he; exact he) ra ra']
    · obtain ⟨a', vs', e', na', ha', ra'⟩ := h2
      cases e'
      rcases ha with ha | ⟨o, ha⟩ <;> (rw [ha] at ha'; cases ha')
  | .tup xs, e, v, n + 1, hd, he, h1, h2 => by
    unfold Rep at h1
    obtain ⟨a, vs, rfl, na, ha, ra⟩ := h1
    cases e <;> unfold Rep at h2 <;> try (cases h2; done)
    · unfold pl at he; cases he
    · obtain ⟨a', vs', e', na', ha', ra'⟩ := h2
      cases e'
      rcases ha' with ha' | ⟨o, ha'⟩ <;> (rw [ha] at ha'; cases ha')
    · obtain ⟨a', vs', e', na', ha', ra'⟩ := h2
      cases e'
      rw [ha] at ha'
      cases ha'
      rw [Reps.inj n (by unfold pl at hd; exact hd) (by unfold pl at he; exact he) ra ra']
theorem Reps.inj {α : List (Option Addr)} {H : Hp} : ∀ {ds es : List D} {vs : List V} (n : Nat), ds.all (pl n) = true → es.all (pl n) = true → Reps α H ds vs → Reps α H es vs → ds = es
  | [], es, vs, n, _, _, h1, h2 => by
    unfold Reps at h1
    subst h1
    cases es with
    | nil => rfl
    | cons e es => unfold Reps at h2; obtain ⟨_, _, h, _⟩ := h2; cases h
  | d :: ds, es, vs, n, hd, he, h1, h2 => by
    unfold Reps at h1
    obtain ⟨v, r, rfl, r1, r2⟩ := h1
    cases es with
    | nil => unfold Reps at h2; cases h2
    | cons e es =>
      unfold Reps at h2
      obtain ⟨v', r', h, q1, q2⟩ := h2
      cases h
      rw [List.all_cons, Bool.and_eq_true] at hd he
      rw [Rep.inj n hd.1 he.1 r1 q1, Reps.inj n hd.2 he.2 r2 q2]
end
theorem eqDs_len : ∀ {xs ys : List D}, xs.length ≠ ys.length → eqDs xs ys = false
  | [], [], h => absurd rfl h
  | [], _ :: _, _ => by unfold eqDs; rfl
  | _ :: _, [], _ => by unfold eqDs; rfl
  | x :: xs, y :: ys, h => by
    unfold eqDs
    rw [eqDs_len (by simpa using h), Bool.and_false]
theorem eqDs_all : ∀ {xs ys : List D}, xs.length = ys.length → eqDs xs ys = (List.range xs.length).all fun j => eqD (xs.getD j .non) (ys.getD j .non)
  | [], [], _ => by unfold eqDs; rfl
  | [], _ :: _, h => by cases h
  | _ :: _, [], h => by cases h
  | x :: xs, y :: ys, h => by
    unfold eqDs
    rw [List.length_cons, List.range_succ_eq_map, List.all_cons, List.all_map, eqDs_all (by simpa using h)]
    rfl
section
variable {X : Cx} {pins : List (Addr × Obj)} {σ : L2.St} {H : Hp} {s : Shared} {α : List (Option Addr)}
theorem rep_get {xs : List D} {vs : List V} {its : List Value} (r : Reps α H xs vs) (v : Vals vs its) (j : Nat) (hj : j < its.length) : ∃ x, xs[j]? = some (xs.getD j .non) ∧ Rep α H (xs.getD j .non) x ∧ RelV x its[j] := by
  have h1 := r.length
  have h2 := v.length
  have hx : j < xs.length := by omega
  have e : xs[j]? = some (xs.getD j .non) := by rw [List.getElem?_eq_getElem hx, List.getD_eq_getElem?_getD, List.getElem?_eq_getElem hx]; rfl
  obtain ⟨x, q, rr⟩ := r.get e
  obtain ⟨u, q2, rv⟩ := v.get q
  rw [List.getElem?_eq_getElem hj] at q2
  cases q2
  exact ⟨x, e, rr, rv⟩
theorem all_getD {xs : List D} {n : Nat} (h : xs.all (pl n) = true) (j : Nat) : pl n (xs.getD j .non) = true := by
  rw [List.getD_eq_getElem?_getD]
  cases e : xs[j]? with
  | none => cases n <;> rfl
  | some d => exact List.all_eq_true.mp h d (List.mem_of_getElem? e)
def scD : D → Bool
  | .non => true
  | .bl _ => true
  | .int _ => true
  | .str _ => true
  | _ => false
theorem eq_scal {A : Around} {d e : D} {x y : V} {u v : Value} (hd : scD d = true) (he : scD e = true) (rd : Rep α H d x) (re : Rep α H e y) (rx : RelV x u) (ry : RelV y v) : RcAt A s u v (eqD d e) ∧ EqAt A s u v (eqD d e) := by
  cases d <;> cases e <;> try (first | (cases hd; done) | (cases he; done))
  all_goals (unfold Rep at rd re; subst rd re)
  all_goals (first | (obtain ⟨t, rfl⟩ := rx; obtain ⟨t', rfl⟩ := ry) | (obtain ⟨t, rfl⟩ := rx; cases ry) | (cases rx; obtain ⟨t, rfl⟩ := ry) | (cases rx; cases ry))
  all_goals unfold eqD
  · exact ⟨RcAt.none_none, EqAt.same _⟩
  · exact ⟨RcAt.none_bool _, EqAt.none_bool _⟩
  · exact ⟨RcAt.none_int _ _, EqAt.none_int _ _⟩
  · exact ⟨RcAt.none_str _ _, EqAt.none_str _ _⟩
  · exact ⟨RcAt.bool_none _, EqAt.bool_none _⟩
  · exact ⟨RcAt.bool_bool _ _, EqAt.bool_bool _ _⟩
  · exact ⟨RcAt.bool_int _ _ _, EqAt.bool_int _ _ _⟩
  · exact ⟨RcAt.bool_str _ _ _, EqAt.bool_str _ _ _⟩
  · exact ⟨RcAt.int_none _ _, EqAt.int_none _ _⟩
  · exact ⟨RcAt.int_bool _ _ _, EqAt.int_bool _ _ _⟩
  · exact ⟨RcAt.int_int _ _ _ _, EqAt.int_int _ _ _ _⟩
  · exact ⟨RcAt.int_str _ _ _ _, EqAt.int_str _ _ _ _⟩
  · exact ⟨RcAt.str_none _ _, EqAt.str_none _ _⟩
  · exact ⟨RcAt.str_bool _ _ _, EqAt.str_bool _ _ _⟩
  · exact ⟨RcAt.str_int _ _ _ _, EqAt.str_int _ _ _ _⟩
  · exact ⟨RcAt.str_str _ _ _ _, EqAt.str_str _ _ _ _⟩
theorem lst_is (I : Inv X pins σ H s) {xs : List D} {x : V} {u : Value} (r : Rep α H (.lst xs) x) (rx : RelV x u) : ∃ a vs its, u = .ref a ∧ Reps α H xs vs ∧ Vals vs its ∧ s.heap.IsList a its.toArray := by
  unfold Rep at r
  obtain ⟨a, vs, rfl, na, ha, ra⟩ := r
  cases rx
  obtain ⟨z, its, n, rv, hl, eo⟩ := Inv.lstR I ha
  exact ⟨a, vs, its, rfl, ra, rv, ⟨_, eo, rfl, n, rfl⟩⟩
theorem tup_is (I : Inv X pins σ H s) {xs : List D} {x : V} {u : Value} (r : Rep α H (.tup xs) x) (rx : RelV x u) : ∃ a vs its, u = .ref a ∧ Reps α H xs vs ∧ Vals vs its ∧ s.heap.IsTuple a its.toArray := by
  unfold Rep at r
  obtain ⟨a, vs, rfl, na, ha, ra⟩ := r
  cases rx
  obtain ⟨its, r', p, hz⟩ := I.tuple (SqT.of ha)
  exact ⟨a, vs, its, rfl, ra, r', p⟩
theorem eq_lst_sc (I : Inv X pins σ H s) {A : Around} {xs : List D} {e : D} {x y : V} {u v : Value} (he : scD e = true) (rd : Rep α H (.lst xs) x) (re : Rep α H e y) (rx : RelV x u) (ry : RelV y v) (hu : A.units < cLine) :
    (RcAt A s u v (eqD (.lst xs) e) ∧ EqAt A s u v (eqD (.lst xs) e)) ∧ RcAt A s v u (eqD e (.lst xs)) ∧ EqAt A s v u (eqD e (.lst xs)) := by
  obtain ⟨a, vs, its, rfl, _, _, hl⟩ := lst_is I rd rx
  cases e <;> try (cases he; done)
  all_goals (unfold Rep at re; subst re)
  all_goals (first | (obtain ⟨t, rfl⟩ := ry) | (cases ry))
  all_goals unfold eqD
  · exact ⟨⟨RcAt.list_none hl hu, EqAt.list_none hl hu⟩, RcAt.none_list hl hu, EqAt.none_list hl hu⟩
  · exact ⟨⟨RcAt.list_bool _ hl hu, EqAt.list_bool _ hl hu⟩, RcAt.bool_list _ hl hu, EqAt.bool_list _ hl hu⟩
  · exact ⟨⟨RcAt.list_int _ _ hl hu, EqAt.list_int _ _ hl hu⟩, RcAt.int_list _ _ hl hu, EqAt.int_list _ _ hl hu⟩
  · exact ⟨⟨RcAt.list_str _ _ hl hu, EqAt.list_str _ _ hl hu⟩, RcAt.str_list _ _ hl hu, EqAt.str_list _ _ hl hu⟩
theorem eq_tup_sc (I : Inv X pins σ H s) {A : Around} {xs : List D} {e : D} {x y : V} {u v : Value} (he : scD e = true) (rd : Rep α H (.tup xs) x) (re : Rep α H e y) (rx : RelV x u) (ry : RelV y v) (hu : A.units < cLine) :
    (RcAt A s u v (eqD (.tup xs) e) ∧ EqAt A s u v (eqD (.tup xs) e)) ∧ RcAt A s v u (eqD e (.tup xs)) ∧ EqAt A s v u (eqD e (.tup xs)) := by
  obtain ⟨a, vs, its, rfl, _, _, hl⟩ := tup_is I rd rx
  cases e <;> try (cases he; done)
  all_goals (unfold Rep at re; subst re)
  all_goals (first | (obtain ⟨t, rfl⟩ := ry) | (cases ry))
  all_goals unfold eqD
  · exact ⟨⟨RcAt.tuple_none hl hu, EqAt.tuple_none hl hu⟩, RcAt.none_tuple hl hu, EqAt.none_tuple hl hu⟩
  · exact ⟨⟨RcAt.tuple_bool _ hl hu, EqAt.tuple_bool _ hl hu⟩, RcAt.bool_tuple _ hl hu, EqAt.bool_tuple _ hl hu⟩
  · exact ⟨⟨RcAt.tuple_int _ _ hl hu, EqAt.tuple_int _ _ hl hu⟩, RcAt.int_tuple _ _ hl hu, EqAt.int_tuple _ _ hl hu⟩
  · exact ⟨⟨RcAt.tuple_str _ _ hl hu, EqAt.tuple_str _ _ hl hu⟩, RcAt.str_tuple _ _ hl hu, EqAt.str_tuple _ _ hl hu⟩
theorem eq_both {A : Around} {n : Nat} {d e : D} {x y : V} {a b : Addr} (hd : pl n d = true) (he : pl n e = true) (rd : Rep α H d x) (re : Rep α H e y) (rx : RelV x (.ref a)) (ry : RelV y (.ref b)) (h : RcAt A s (.ref a) (.ref b) (eqD d e)) :
    RcAt A s (.ref a) (.ref b) (eqD d e) ∧ EqAt A s (.ref a) (.ref b) (eqD d e) := by
  refine ⟨h, ?_⟩
  by_cases hab : a = b
  · subst hab
    have hx : x = y := RelV.inj rx ry
    subst hx
    have := Rep.inj n hd he rd re
    subst this
    rw [eqD_refl n d hd]
    exact EqAt.same _
  · exact EqAt.of_refs hab h
theorem eq_ok (I : Inv X pins σ H s) : ∀ (n : Nat) (A : Around) (d e : D) (x y : V) (u v : Value), pl n d = true → pl n e = true → Rep α H d x → Rep α H e y → RelV x u → RelV y v → A.units + n < cLine →
    RcAt A s u v (eqD d e) ∧ EqAt A s u v (eqD d e) := by
  intro n
  induction n with
  | zero =>
    intro A d e x y u v hd he rd re rx ry hu
    refine eq_scal ?_ ?_ rd re rx ry
    · cases d <;> first | rfl | (cases hd)
    · cases e <;> first | rfl | (cases he)
  | succ n ih =>
    intro A d e x y u v hd he rd re rx ry hu
    have hu0 : A.units < cLine := by omega
    have hin : A.in1.units + n < cLine := by rw [Around.in1_units]; omega
    cases d <;> try (cases hd; done)
    case lst xs =>
      cases e <;> try (cases he; done)
      case lst ys =>
        have rd0 := rd
        have re0 := re
        have rx0 := rx
        have ry0 := ry
        obtain ⟨a, vs, its, rfl, r1, v1, l1⟩ := lst_is I rd rx
        obtain ⟨b, ws, jts, rfl, r2, v2, l2⟩ := lst_is I re ry
        have e1 := r1.length
        have e2 := v1.length
        have e3 := r2.length
        have e4 := v2.length
        refine eq_both hd he rd0 re0 rx0 ry0 ?_
        unfold eqD
        by_cases hlen : xs.length = ys.length
        · rw [eqDs_all hlen]
          have hsz : its.toArray.size = jts.toArray.size := by simp only [List.size_toArray]; omega
          have hx : xs.length = its.toArray.size := by simp only [List.size_toArray]; omega
          rw [hx]
          refine RcAt.lists l1 l2 hsz hu0 fun j h1 h2 => ?_
          have h1' : j < its.length := by simpa using h1
          have h2' : j < jts.length := by simpa using h2
          obtain ⟨p, _, q1, q2⟩ := rep_get r1 v1 j h1'
          obtain ⟨p', _, q1', q2'⟩ := rep_get r2 v2 j h2'
          exact (ih A.in1 _ _ p p' _ _ (all_getD (by unfold pl at hd; exact hd) j) (all_getD (by unfold pl at he; exact he) j) q1 q1' (by simpa using q2) (by simpa using q2') hin).2
        · rw [eqDs_len hlen]
          exact RcAt.lists_lengths l1 l2 (by simp only [List.size_toArray, bne_iff_ne, ne_eq]; omega) hu0
      case tup ys =>
        obtain ⟨a, vs, its, rfl, r1, v1, l1⟩ := lst_is I rd rx
        obtain ⟨b, ws, jts, rfl, r2, v2, l2⟩ := tup_is I re ry
        unfold eqD
        exact ⟨RcAt.list_tuple l1 l2 hu0, EqAt.list_tuple l1 l2 hu0⟩
      all_goals exact (eq_lst_sc I rfl rd re rx ry hu0).1
    case tup xs =>
      cases e <;> try (cases he; done)
      case tup ys =>
        have rd0 := rd
        have re0 := re
        have rx0 := rx
        have ry0 := ry
        obtain ⟨a, vs, its, rfl, r1, v1, l1⟩ := tup_is I rd rx
        obtain ⟨b, ws, jts, rfl, r2, v2, l2⟩ := tup_is I re ry
        have e1 := r1.length
        have e2 := v1.length
        have e3 := r2.length
        have e4 := v2.length
        refine eq_both hd he rd0 re0 rx0 ry0 ?_
        unfold eqD
        have key := RcAt.tuples (e := fun j => eqD (xs.getD j .non) (ys.getD j .non)) l1 l2 hu0 fun j h1 h2 => by
          have h1' : j < its.length := by simpa using h1
          have h2' : j < jts.length := by simpa using h2
          obtain ⟨p, _, q1, q2⟩ := rep_get r1 v1 j h1'
          obtain ⟨p', _, q1', q2'⟩ := rep_get r2 v2 j h2'
          exact (ih A.in1 _ _ p p' _ _ (all_getD (by unfold pl at hd; exact hd) j) (all_getD (by unfold pl at he; exact he) j) q1 q1' (by simpa using q2) (by simpa using q2') hin).2
        by_cases hlen : xs.length = ys.length
        · rw [eqDs_all hlen]
          have hsz : its.toArray.size = jts.toArray.size := by simp only [List.size_toArray]; omega
          have hx : xs.length = its.toArray.size := by simp only [List.size_toArray]; omega
          rw [hsz, Nat.min_self, beq_self_eq_true, Bool.and_true, ← hsz, ← hx] at key
          exact key
        · rw [eqDs_len hlen]
          have hne : (its.toArray.size == jts.toArray.size) = false := by simp only [List.size_toArray, beq_eq_false_iff_ne, ne_eq]; omega
          rw [hne, Bool.and_false] at key
          exact key
      case lst ys =>
        obtain ⟨a, vs, its, rfl, r1, v1, l1⟩ := tup_is I rd rx
        obtain ⟨b, ws, jts, rfl, r2, v2, l2⟩ := lst_is I re ry
        unfold eqD
        exact ⟨RcAt.tuple_list l1 l2 hu0, EqAt.tuple_list l1 l2 hu0⟩
      all_goals exact (eq_tup_sc I rfl rd re rx ry hu0).1
    all_goals
      cases e <;> try (cases he; done)
      case lst ys => exact (eq_lst_sc I rfl re rd ry rx hu0).2
      case tup ys => exact (eq_tup_sc I rfl re rd ry rx hu0).2
      all_goals exact eq_scal rfl rfl rd re rx ry
def dEqR : DR2 := fun x y st K => pl 40 x = true ∧ pl 40 y = true ∧ K (.bl (eqD x y)) st
theorem o_eq {k : Nat} (hr : Room k X.A) : OpR X (compareOp .Eq) (LR dEqR) := fun pins s σ H x y v u Q I rx ry ⟨α, d, e, st, K, G, F', P, r1, r2, S, q, k⟩ => by
  have hu := hr.units
  exact (eq_ok I 40 X.A d e x y v u q.1 q.2.1 (r1.mono P.same) (r2.mono P.same) rx ry (by omega)).1 _ _ _ _ ⟨.bl (eqD d e), H, I, rfl, k.here P q.2.2 S (by unfold Rep; rfl)⟩
def dNeR : DR2 := fun x y st K => match x, y with
  | .int i, .int j => K (.bl (!decide (i = j))) st
  | .bl i, .bl j => K (.bl (!decide (i = j))) st
  | .str i, .str j => K (.bl (!decide (i = j))) st
  | _, _ => False
theorem o_ne : OpR X (compareOp .NotEq) (LR dNeR) := OpR.imp op_ne fun x y H Q ⟨α, d, e, st, K, G, F', P, r1, r2, S, q, k⟩ => by
  cases d <;> cases e <;> try exact q.elim
  all_goals (unfold Rep at r1 r2; subst r1 r2)
  · exact ⟨rfl, k.here P q S (by unfold Rep; congr 2; exact decide_eq_decide.mpr ⟨fun h => by cases h; rfl, fun h => by rw [h]⟩)⟩
  · exact ⟨rfl, k.here P q S (by unfold Rep; congr 2; exact decide_eq_decide.mpr ⟨fun h => by cases h; rfl, fun h => by rw [h]⟩)⟩
  · exact ⟨rfl, k.here P q S (by unfold Rep; congr 2; exact decide_eq_decide.mpr ⟨fun h => by cases h; rfl, fun h => by rw [h]⟩)⟩
end
end L3
namespace L3
open PySem PySem.Spec L2
open PyProof.Rows hiding St
def LC (α : List (Option Addr)) (G F : Hp) (K : DEnv → Store → Prop) (Q : L2.St → Hp → Prop) : Prop := ∀ σd' st', K σd' st' → ∀ α' G' H' σ', Step α G α' G' → Spl G' F H' → RelS α' G' σd' σ' → StRel α' st' G' → Q σ' H'
structure LEnds (α : List (Option Addr)) (G F : Hp) (DD : DEnds) (D : Ends) : Prop where
  nx : LC α G F DD.nx D.nx
  rt : LK α G F DD.rt D.rt
  bk : LC α G F DD.bk D.bk
  ct : LC α G F DD.ct D.ct
def LS (t : DS) : TS := fun D σ H => ∃ α σd st DD G F, Spl G F H ∧ RelS α G σd σ ∧ StRel α st G ∧ t DD σd st ∧ LEnds α G F DD D
theorem LC.at {α α1 : List (Option Addr)} {G F G1 : Hp} {K : DEnv → Store → Prop} {Q : L2.St → Hp → Prop} (h : LC α G F K Q) (s : Step α G α1 G1) : LC α1 G1 F K Q := fun d st' k α' G' H' v s' P R S => h d st' k α' G' H' v (s.trans s') P R S
theorem LC.here {α : List (Option Addr)} {G F H : Hp} {K : DEnv → Store → Prop} {Q : L2.St → Hp → Prop} (h : LC α G F K Q) (P : Spl G F H) {σd : DEnv} {st : Store} {σ : L2.St} (k : K σd st) (R : RelS α G σd σ) (S : StRel α st G) : Q σ H := h σd st k α G H σ Step.refl P R S
theorem LEnds.at {α α1 : List (Option Addr)} {G F G1 : Hp} {DD : DEnds} {D : Ends} (h : LEnds α G F DD D) (s : Step α G α1 G1) : LEnds α1 G1 F DD D := ⟨h.nx.at s, h.rt.at s, h.bk.at s, h.ct.at s⟩
section
variable {X : Cx} {a b c e o i : Expr} {es : List Expr} {ta tb tc te : DE} {pos : Pos} {st : Stmt} {sts : List Stmt} {t u : DS}
theorem PS.imp {t t' : TS} (h : PS X st t) (f : ∀ D σ H, t' D σ H → t D σ H) : PS X st t' := fun pins s σ H D I q => h pins s σ H D I (f D σ H q)
theorem PSs.imp {t t' : TS} (h : PSs X sts t) (f : ∀ D σ H, t' D σ H → t D σ H) : PSs X sts t' := fun pins s σ H D I q => h pins s σ H D I (f D σ H q)
def dNext : DS := fun D σ st => D.nx σ st
def dSeq (t u : DS) : DS := fun D σ st => t { D with nx := u D } σ st
theorem dss_nil : PSs X [] (LS dNext) := PSs.imp pss_nil fun D σ H ⟨α, σd, st, DD, G, F, P, R, S, t, k⟩ => k.nx.here P t R S
theorem dss_one (h : PS X st (LS t)) : PSs X [st] (LS t) := pss_one h
theorem dss_cons (h : PS X st (LS t)) (h2 : PSs X sts (LS u)) : PSs X (st :: sts) (LS (dSeq t u)) := PSs.imp (pss_cons h h2) fun D σ H ⟨α, σd, st, DD, G, F, P, R, S, t, k⟩ =>
  ⟨α, σd, st, _, G, F, P, R, S, t, fun σd' st' q α' G' H' σ' s' P' R' S' => ⟨α', σd', st', DD, G', F, P', R', S', q, k.at s'⟩, k.rt, k.bk, k.ct⟩
def dRet (te : DE) : DS := fun D σ st => te σ st D.rt
theorem ds_ret (h : PE X e (LE te)) : PS X (.Return (some e) pos) (LS (dRet te)) := PS.imp (ps_ret h) fun D σ H ⟨α, σd, st, DD, G, F, P, R, S, t, k⟩ => ⟨α, σd, st, _, G, F, P, R, S, t, k.rt⟩
def dIfS (c : DT) (t u : DS) : DS := fun D σ st => c σ st fun b st1 => if b = true then t D σ st1 else u D σ st1
theorem ds_if {x y : List Stmt} {tc : DT} (hc : PT X c (LT tc)) (ha : PSs X x (LS t)) (hb : PSs X y (LS u)) : PS X (.If c x y pos) (LS (dIfS tc t u)) := PS.imp (ps_if hc ha hb) fun D σ H ⟨α, σd, st, DD, G, F, P, R, S, t, k⟩ => by
  refine ⟨α, σd, st, _, G, F, P, R, S, t, fun b st1 q α1 G1 H1 s1 P1 S1 => ?_⟩
  cases b with
  | true => exact ⟨α1, σd, st1, DD, G1, F, P1, R.step s1, S1, q, k.at s1⟩
  | false => exact ⟨α1, σd, st1, DD, G1, F, P1, R.step s1, S1, q, k.at s1⟩
abbrev DTg := D → DEnv → Option DEnv
def tgName (i : Nat) : DTg := fun d σ => some (σ.set i (some d))
def tgTwo (i j : Nat) : DTg := fun d σ => match d with | .tup [x, y] => some ((σ.set i (some x)).set j (some y)) | _ => none
def LG (t : DTg) : TG := fun v σ H Q => ∃ α σd st d K G F, Spl G F H ∧ RelS α G σd σ ∧ StRel α st G ∧ Rep α G d v ∧ (∃ σ', t d σd = some σ' ∧ K σ' st) ∧ LC α G F K Q
theorem PG.imp {tg : Expr} {t t' : TG} (h : PG X tg t) (f : ∀ v σ H Q, t' v σ H Q → t v σ H Q) : PG X tg t' := fun pins s σ H v u Q I r q => h pins s σ H v u Q I r (f v σ H Q q)
theorem dg_name {tg : Expr} {i : Nat} (h : PG X tg (gName i)) : PG X tg (LG (tgName i)) := PG.imp h fun v σ H Q ⟨α, σd, st, d, K, G, F, P, R, S, r, ⟨σ', e, q⟩, k⟩ => by
  cases e
  exact k.here P q (R.set i r) S
theorem dg_two {tg : Expr} {i j : Nat} (h : PG X tg (gTup X.K 2 (gCons (gName i) (gCons (gName j) gNil)))) : PG X tg (LG (tgTwo i j)) := PG.imp h fun v σ H Q ⟨α, σd, st, d, K, G, F, P, R, S, r, ⟨σ', e, q⟩, k⟩ => by
  unfold tgTwo at e
  split at e
  · rename_i x y
    cases e
    unfold Rep at r
    obtain ⟨a, vs, rfl, na, h1, h2⟩ := r
    obtain ⟨v1, v2, rfl, r1, r2⟩ := reps2 h2 rfl
    exact ⟨a, _, rfl, .of (P.get h1), rfl, v1, _, rfl, v2, _, rfl, rfl, k.here P q ((R.set i r1).set j r2) S⟩
  · cases e
def dSet (i : Nat) (te : DE) : DS := fun D σ st => te σ st fun d st1 => D.nx (σ.set i (some d)) st1
theorem ds_set {i : Nat} (h : PS X st (tAsg (LE te) (gName i))) : PS X st (LS (dSet i te)) := PS.imp h fun D σ H ⟨α, σd, st, DD, G, F, P, R, S, t, k⟩ =>
  ⟨α, σd, st, _, G, F, P, R, S, t, fun d st1 q α1 G1 H1 v s1 P1 S1 r1 => (k.nx.at s1).here P1 q ((R.step s1).set i r1) S1⟩
def dAsg (tg : DTg) (te : DE) : DS := fun D σ st => te σ st fun d st1 => ∃ σ', tg d σ = some σ' ∧ D.nx σ' st1
theorem ds_asg {tg : DTg} (h : PS X st (tAsg (LE te) (LG tg))) : PS X st (LS (dAsg tg te)) := PS.imp h fun D σ H ⟨α, σd, st, DD, G, F, P, R, S, t, k⟩ =>
  ⟨α, σd, st, _, G, F, P, R, S, t, fun d st1 q α1 G1 H1 v s1 P1 S1 r1 => ⟨α1, σd, st1, d, DD.nx, G1, F, P1, R.step s1, S1, r1, q, k.nx.at s1⟩⟩
def dPar (i j : Nat) (ta : DA) : DS := fun D σ st => ta σ st fun ds st1 => match ds with | [x, y] => D.nx ((σ.set i (some x)).set j (some y)) st1 | _ => False
theorem ds_par {i j : Nat} {ta : DA} (h : PS X st (tPar i j (LA ta))) : PS X st (LS (dPar i j ta)) := PS.imp h fun D σ H ⟨α, σd, st, DD, G, F, P, R, S, t, k⟩ => by
  refine ⟨α, σd, st, _, G, F, P, R, S, t, fun ds st1 q α1 G1 H1 vs s1 P1 S1 r1 => ?_⟩
  match ds, q, r1 with
  | [x, y], q, r1 =>
    obtain ⟨v1, v2, rfl, q1, q2⟩ := reps2 r1 rfl
    exact ⟨v1, v2, rfl, (k.nx.at s1).here P1 q (((R.step s1).set i q1).set j q2) S1⟩
def setR (x y d : D) (st : Store) (K : Store → Prop) : Prop := match x, y with
  | .ref n, .int k => (match st[n]? with
    | some (.lst xs) => (match ixN xs.length k with | some j => K (st.set n (.lst (xs.set j d))) | none => False)
    | _ => False)
  | _, _ => False
def dSetIx (to ti te : DE) : DS := fun D σ st => te σ st fun d st1 => to σ st1 fun x st2 => ti σ st2 fun y st3 => setR x y d st3 fun st4 => D.nx σ st4
theorem ds_setIx {to ti : DE} (h : PS X st (tAsg (LE te) (gSub (LE to) (LE ti) rSetL))) : PS X st (LS (dSetIx to ti te)) := PS.imp h fun D σ H ⟨α, σd, st, DD, G, F, P, R, S, t, k⟩ => by
  refine ⟨α, σd, st, _, G, F, P, R, S, t, fun d st1 q α1 G1 H1 v s1 P1 S1 r1 => ?_⟩
  refine ⟨α1, σd, st1, _, G1, F, P1, R.step s1, S1, q, fun x st2 q2 α2 G2 H2 v2 s2 P2 S2 r2 => ?_⟩
  refine ⟨α2, σd, st2, _, G2, F, P2, (R.step s1).step s2, S2, q2, fun y st3 q3 α3 G3 H3 v3 s3 P3 S3 r3 => ?_⟩
  cases x <;> cases y <;> try exact q3.elim
  rename_i n kk
  unfold setR at q3
  simp only at q3
  split at q3
  · rename_i xs e
    split at q3
    · rename_i j ej
      obtain ⟨p, ep, vs, hv, rv⟩ := S3.lstAt e
      have r2' := rep_at ep (r2.step s3)
      subst r2'
      unfold Rep at r3
      have hm : some p ∈ α3 := List.mem_of_getElem? ep
      have rd := (r1.step s2).step s3
      refine ⟨p, vs, kk, j, rfl, r3, P3.get hv, by rw [← rv.length]; exact ej, ?_⟩
      refine (((k.nx.at s1).at s2).at s3) σd _ q3 α3 (upd G3 p (.lst (vs.set j v))) _ σ (Step.write hm) (P3.write hv) ((((R.step s1).step s2).step s3).step (Step.write hm)) ?_
      exact S3.write ep ⟨vs.set j v, upd_same, (reps_paired.mpr (paired_set rd j (reps_paired.mp rv))).step (Step.write hm)⟩
    · exact q3.elim
  · exact q3.elim
def dWhile (c : DT) (tb : DS) : DS := fun D σ st => ∃ W : Nat → DEnv → Store → Prop, (∃ m, W m σ st) ∧ ∀ m σ st, W m σ st →
  c σ st fun b st1 => if b = true then tb { D with nx := fun σ' st' => ∃ m', m' < m ∧ W m' σ' st', ct := fun σ' st' => ∃ m', m' < m ∧ W m' σ' st', bk := D.nx } σ st1 else D.nx σ st1
theorem ds_while {tc : DT} (h : PS X st (tWhile (LT tc) (LS t))) : PS X st (LS (dWhile tc t)) := PS.imp h fun D σ H ⟨α, σd, st, DD, G, F, P, R, S, ⟨W, ⟨m0, w0⟩, turn⟩, k⟩ => by
  refine ⟨fun m σ' H' => ∃ α' σd' st' G', Step α G α' G' ∧ Spl G' F H' ∧ RelS α' G' σd' σ' ∧ StRel α' st' G' ∧ W m σd' st', ⟨m0, α, σd, st, G, Step.refl, P, R, S, w0⟩, ?_⟩
  rintro m σ1 H1 ⟨α1, σd1, st1, G1, s1, P1, R1, S1, w1⟩
  refine ⟨α1, σd1, st1, _, G1, F, P1, R1, S1, turn m σd1 st1 w1, fun b st2 q α2 G2 H2 s2 P2 S2 => ?_⟩
  cases b with
  | false => exact ((k.nx.at s1).at s2).here P2 q (R1.step s2) S2
  | true =>
    refine ⟨fun σ' H' => ∃ m', m' < m ∧ ∃ α' σd' st' G', Step α G α' G' ∧ Spl G' F H' ∧ RelS α' G' σd' σ' ∧ StRel α' st' G' ∧ W m' σd' st', fun σ' H' z => z, ?_⟩
    refine ⟨α2, σd1, st2, _, G2, F, P2, R1.step s2, S2, q, ?_⟩
    refine ⟨?_, (k.rt.at s1).at s2, (k.nx.at s1).at s2, ?_⟩
    · rintro σd3 st3 ⟨m', hm, w3⟩ α3 G3 H3 σ3 s3 P3 R3 S3
      exact ⟨m', hm, α3, σd3, st3, G3, (s1.trans s2).trans s3, P3, R3, S3, w3⟩
    · rintro σd3 st3 ⟨m', hm, w3⟩ α3 G3 H3 σ3 s3 P3 R3 S3
      exact ⟨m', hm, α3, σd3, st3, G3, (s1.trans s2).trans s3, P3, R3, S3, w3⟩
abbrev DI := DEnv → Store → (List D → (Store → Prop) → Store → Prop) → Prop
structure ItOk (J : It) (α : List (Option Addr)) (G : Hp) (ok : Store → Prop) (xs : List D) : Prop where
  stop : ∀ (n : Nat) α' G' F' H' st', Step α G α' G' → Spl G' F' H' → StRel α' st' G' → ok st' → xs.length ≤ n → J.stop n H'
  go : ∀ (n : Nat) d α' G' F' H' st', Step α G α' G' → Spl G' F' H' → StRel α' st' G' → ok st' → xs[n]? = some d → J.go n H'
  yld : ∀ (n : Nat) d α' G' F' H' st' x H'', Step α G α' G' → Spl G' F' H' → StRel α' st' G' → ok st' → xs[n]? = some d → J.yld n H' x H'' → ∃ G'', Step α' G' α' G'' ∧ Spl G'' F' H'' ∧ StRel α' st' G'' ∧ Rep α' G'' d x
def LI (t : DI) : TI := fun σ H R => ∃ α σd st K G F, Spl G F H ∧ RelS α G σd σ ∧ StRel α st G ∧ t σd st K ∧ ∀ xs ok st1, K xs ok st1 → ∀ J α1 G1 H1, Step α G α1 G1 → Spl G1 F H1 → StRel α1 st1 G1 → ItOk J α1 G1 ok xs → R J H1
def seqR (d : D) (st1 : Store) (K : List D → (Store → Prop) → Store → Prop) : Prop := match d with
  | .lst xs => K xs (fun _ => True) st1
  | .tup xs => K xs (fun _ => True) st1
  | .ref n => (match st1[n]? with | some (.lst xs) => K xs (fun st' => st'[n]? = some (.lst xs)) st1 | _ => False)
  | _ => False
def dSeqI (t : DE) : DI := fun σ st K => t σ st fun d st1 => seqR d st1 K
theorem it_list {K : PySem.W.Frag} {a : Addr} {α : List (Option Addr)} {G : Hp} {ok : Store → Prop} {xs : List D}
    (h : ∀ α' G' st', Step α G α' G' → StRel α' st' G' → ok st' → ∃ vs, Rd G' a (.lst vs) ∧ Reps α' G' xs vs) : ItOk (Itl K a) α G ok xs where
  stop := fun n α' G' F' H' st' s P S o hn => by
    obtain ⟨vs, h1, h2⟩ := h α' G' st' s S o
    exact ⟨vs, .inl (rd_up P h1), by rw [← h2.length]; exact hn⟩
  go := fun n d α' G' F' H' st' s P S o hn => by
    obtain ⟨vs, h1, h2⟩ := h α' G' st' s S o
    obtain ⟨v, e, _⟩ := h2.get hn
    exact ⟨vs, v, .inl (rd_up P h1), e⟩
  yld := fun n d α' G' F' H' st' x H'' s P S o hn y => by
    obtain ⟨vs, h1, h2⟩ := h α' G' st' s S o
    obtain ⟨v, e, r⟩ := h2.get hn
    obtain ⟨rfl, y⟩ := y
    have := y vs (.inl (rd_up P h1))
    rw [e] at this
    cases this
    exact ⟨G', Step.refl, P, S, r⟩
theorem it_tup {K : PySem.W.Frag} {a : Addr} {α : List (Option Addr)} {G : Hp} {ok : Store → Prop} {xs : List D}
    (h : ∀ α' G' st', Step α G α' G' → StRel α' st' G' → ok st' → ∃ vs, G' a = some (.tup vs) ∧ Reps α' G' xs vs) : ItOk (Itt K a) α G ok xs where
  stop := fun n α' G' F' H' st' s P S o hn => by
    obtain ⟨vs, h1, h2⟩ := h α' G' st' s S o
    exact ⟨vs, .of (P.get h1), by rw [← h2.length]; exact hn⟩
  go := fun n d α' G' F' H' st' s P S o hn => by
    obtain ⟨vs, h1, h2⟩ := h α' G' st' s S o
    obtain ⟨v, e, _⟩ := h2.get hn
    exact ⟨vs, v, .of (P.get h1), e⟩
  yld := fun n d α' G' F' H' st' x H'' s P S o hn y => by
    obtain ⟨vs, h1, h2⟩ := h α' G' st' s S o
    obtain ⟨v, e, r⟩ := h2.get hn
    obtain ⟨rfl, y⟩ := y
    have := y vs (.of (P.get h1))
    rw [e] at this
    cases this
    exact ⟨G', Step.refl, P, S, r⟩
theorem lst_step {α α' : List (Option Addr)} {G G' : Hp} {a : Addr} {vs : List V} {xs : List D} (s : Step α G α' G') (na : some a ∉ α) (h1 : Rd G a (.lst vs)) (h2 : Reps α G xs vs) : Rd G' a (.lst vs) ∧ Reps α' G' xs vs := by
  refine ⟨?_, h2.step s⟩
  rcases h1 with h | ⟨o, h⟩
  · exact .inl (s.ext _ _ na h)
  · exact .inr ⟨o, s.ext _ _ na h⟩
theorem di_seq {l tg : Expr} {tl : DE} (hl : PE X l (LE tl)) : PI X tg l (LI (dSeqI tl)) := by
  intro pins s σ H R I h
  obtain ⟨α, σd, st, K, G, F, P, RS, S, t, k⟩ := h
  refine thn (hl pins s σ H (fun x H1 => ∃ d α1 G1 st1, Step α G α1 G1 ∧ Spl G1 F H1 ∧ StRel α1 st1 G1 ∧ Rep α1 G1 d x ∧ seqR d st1 K) I ⟨α, σd, st, _, G, F, P, RS, S, t, fun d st1 q α1 G1 H1 v s1 P1 S1 r1 => ⟨d, α1, G1, st1, s1, P1, S1, r1, q⟩⟩) fun v s1 ⟨x, H1, I1, rx, d, α1, G1, st1, s1', P1, S1, r1, q⟩ => ?_
  unfold seqR at q
  have viaL : ∀ {a : Addr} {vs : List V}, x = .ref a → Rd H1 a (.lst vs) → R (Itl X.K a) H1 → wpAny (model X.prog X.w) X.A (pyIter v) (PIE X pins σ tg R) X.xe s1 := by
    intro a vs ex hr hR
    subst ex
    cases rx
    obtain ⟨its, rv, p, hz⟩ := I1.list (.inl hr)
    refine wpAny_pyIter_list p.isList ?_
    refine ⟨s1.heap.objs.size, [s1.heap.objs.size], _, _, H1, rfl, I1.kept (t' := s1.toks) fun b o e => Heap.get?_push_of_some _ e, turn_list a _, ⟨_, Heap.get?_push_size _ rfl, rfl, rfl⟩, fun b hb => ?_, hR⟩
    have e : b = s1.heap.objs.size := by simpa using hb
    subst e
    exact I1.fpOk (Nat.le_refl _) (I1.hok.fresh (Nat.le_refl _))
  have viaT : ∀ {a : Addr} {vs : List V}, x = .ref a → H1 a = some (.tup vs) → R (Itt X.K a) H1 → wpAny (model X.prog X.w) X.A (pyIter v) (PIE X pins σ tg R) X.xe s1 := by
    intro a vs ex hr hR
    subst ex
    cases rx
    obtain ⟨its, rv, p, hz⟩ := I1.tuple (SqT.of hr)
    refine wpAny_pyIter_tuple (show s1.heap.IsTuple a its.toArray from p) ?_
    refine ⟨s1.heap.objs.size, [s1.heap.objs.size], _, _, H1, rfl, I1.kept (t' := s1.toks) fun b o e => Heap.get?_push_of_some _ e, turn_tuple a _, ⟨_, Heap.get?_push_size _ rfl, rfl, rfl⟩, fun b hb => ?_, hR⟩
    have e : b = s1.heap.objs.size := by simpa using hb
    subst e
    exact I1.fpOk (Nat.le_refl _) (I1.hok.fresh (Nat.le_refl _))
  cases d <;> try exact q.elim
  · rename_i n
    simp only at q
    split at q
    · rename_i xs e
      obtain ⟨a, ea, vs, h1, h2⟩ := S1.lstAt e
      have r1' := rep_at ea r1
      subst r1'
      refine viaL rfl (rd_up P1 (.of h1)) (k _ _ st1 q _ α1 G1 H1 s1' P1 S1 (it_list fun α' G' st' s S o => ?_))
      obtain ⟨b, eb, ws, g1, g2⟩ := S.lstAt o
      have hb : b = a := by
        rcases s.pre _ _ ea with z | z <;> (rw [z] at eb; cases eb)
        rfl
      subst hb
      exact ⟨ws, .of g1, g2⟩
    · exact q.elim
  · unfold Rep at r1
    obtain ⟨a, vs, rfl, na, ha, ra⟩ := r1
    exact viaL rfl (rd_up P1 ha) (k _ _ st1 q _ α1 G1 H1 s1' P1 S1 (it_list fun α' G' st' s S o => ⟨vs, lst_step s na ha ra⟩))
  · unfold Rep at r1
    obtain ⟨a, vs, rfl, na, ha, ra⟩ := r1
    exact viaT rfl (P1.get ha) (k _ _ st1 q _ α1 G1 H1 s1' P1 S1 (it_tup fun α' G' st' s S o => ⟨vs, s.ext _ _ na ha, ra.step s⟩))
def rangeD (lo : Int) (n : Nat) : List D := (List.range n).map fun (k : Nat) => D.int (lo + (k : Int))
theorem rangeD_get {lo : Int} {n k : Nat} : (rangeD lo n)[k]? = if k < n then some (.int (lo + (k : Int))) else none := by
  unfold rangeD
  rw [List.getElem?_map]
  by_cases h : k < n
  · rw [List.getElem?_range h, if_pos h]; rfl
  · rw [List.getElem?_eq_none (by simpa using h), if_neg h]; rfl
theorem rangeD_len {lo : Int} {n : Nat} : (rangeD lo n).length = n := by unfold rangeD; simp
theorem it_range {α : List (Option Addr)} {G : Hp} {lo : Int} {n : Nat} : ItOk (Itr lo n) α G (fun _ => True) (rangeD lo n) where
  stop := fun m α' G' F' H' st' s P S o hn => by rw [rangeD_len] at hn; exact hn
  go := fun m d α' G' F' H' st' s P S o hn => by
    rw [rangeD_get] at hn
    split at hn
    · assumption
    · cases hn
  yld := fun m d α' G' F' H' st' x H'' s P S o hn y => by
    obtain ⟨rfl, rfl⟩ := y
    rw [rangeD_get] at hn
    split at hn
    · cases hn
      exact ⟨G', Step.refl, P, S, by unfold Rep; rfl⟩
    · cases hn
theorem PI.imp {tg iter : Expr} {t t' : TI} (h : PI X tg iter t) (f : ∀ σ H R, t' σ H R → t σ H R) : PI X tg iter t' := fun pins s σ H R I q => h pins s σ H R I (f σ H R q)
def rng1R (ds : List D) (st1 : Store) (K : List D → (Store → Prop) → Store → Prop) : Prop := match ds with
  | [.int j] => (-(2 ^ 62) ≤ j ∧ j < 2 ^ 62) ∧ K (rangeD 0 j.toNat) (fun _ => True) st1
  | _ => False
def rng2R (ds : List D) (st1 : Store) (K : List D → (Store → Prop) → Store → Prop) : Prop := match ds with
  | [.int i, .int j] => (-(2 ^ 62) ≤ i ∧ i < 2 ^ 62 ∧ -(2 ^ 62) ≤ j ∧ j < 2 ^ 62) ∧ K (rangeD i (j - i).toNat) (fun _ => True) st1
  | _ => False
def dRange1 (t : DA) : DI := fun σ st K => t σ st fun ds st1 => rng1R ds st1 K
def dRange2 (t : DA) : DI := fun σ st K => t σ st fun ds st1 => rng2R ds st1 K
theorem di_range1 {tg iter : Expr} {t : DA} (h : PI X tg iter (iRng1 (LA t))) : PI X tg iter (LI (dRange1 t)) := PI.imp h fun σ H R ⟨α, σd, st, K, G, F, P, RS, S, t, k⟩ => by
  refine ⟨α, σd, st, _, G, F, P, RS, S, t, fun ds st1 q α1 G1 H1 vs s1 P1 S1 r1 => ?_⟩
  match ds, q, r1 with
  | [.int j], q, r1 =>
    obtain ⟨v, rfl, r2⟩ := reps1 r1 rfl
    unfold Rep at r2
    subst r2
    exact ⟨j, rfl, q.1.1, q.1.2, k _ _ st1 q.2 _ α1 G1 H1 s1 P1 S1 it_range⟩
theorem di_range2 {tg iter : Expr} {t : DA} (h : PI X tg iter (iRng2 (LA t))) : PI X tg iter (LI (dRange2 t)) := PI.imp h fun σ H R ⟨α, σd, st, K, G, F, P, RS, S, t, k⟩ => by
  refine ⟨α, σd, st, _, G, F, P, RS, S, t, fun ds st1 q α1 G1 H1 vs s1 P1 S1 r1 => ?_⟩
  match ds, q, r1 with
  | [.int i, .int j], q, r1 =>
    obtain ⟨v, u, rfl, r2, r3⟩ := reps2 r1 rfl
    unfold Rep at r2 r3
    subst r2 r3
    exact ⟨i, j, rfl, q.1, k _ _ st1 q.2 _ α1 G1 H1 s1 P1 S1 it_range⟩
def forD (tg : DTg) (body : DS) (ok : Store → Prop) (E : DEnds) : List D → DEnv → Store → Prop
  | [], σ, st => ok st ∧ E.nx σ st
  | x :: xs, σ, st => ok st ∧ ∃ σ1, tg x σ = some σ1 ∧ body { E with nx := forD tg body ok E xs, ct := forD tg body ok E xs, bk := E.nx } σ1 st
def dFor (src : DI) (tg : DTg) (body : DS) : DS := fun D σ st => src σ st fun xs ok st1 => forD tg body ok D xs σ st1
theorem ds_for {src : DI} {tg : DTg} (h : PS X st (tFor (LI src) (LG tg) (LS t))) : PS X st (LS (dFor src tg t)) := PS.imp h fun D σ H ⟨α, σd, st, DD, G, F, P, R, S, tt, k⟩ => by
  refine ⟨α, σd, st, _, G, F, P, R, S, tt, fun xs ok st1 q J α1 G1 H1 s1 P1 S1 it => ?_⟩
  refine ⟨fun i m σ' H' => ∃ α' σd' st' G', Step α1 G1 α' G' ∧ Spl G' F H' ∧ RelS α' G' σd' σ' ∧ StRel α' st' G' ∧ forD tg t ok DD (xs.drop i) σd' st' ∧ m = xs.length - i, ⟨xs.length, α1, σd, st1, G1, Step.refl, P1, R.step s1, S1, q, rfl⟩, ?_⟩
  rintro i m σ2 H2 ⟨α2, σd2, st2, G2, s2, P2, R2, S2, q2, rfl⟩
  cases e : xs[i]? with
  | none =>
    have hl : xs.length ≤ i := List.getElem?_eq_none_iff.mp e
    rw [List.drop_eq_nil_of_le hl] at q2
    unfold forD at q2
    exact .inl ⟨it.stop i α2 G2 F H2 st2 s2 P2 S2 q2.1 hl, ((k.nx.at s1).at s2).here P2 q2.2 R2 S2⟩
  | some d =>
    have hl : i < xs.length := (List.getElem?_eq_some_iff.mp e).1
    have ed : xs.drop i = d :: xs.drop (i + 1) := by
      rw [List.drop_eq_getElem_cons hl]
      congr 1
      rw [List.getElem?_eq_getElem hl] at e
      exact Option.some.inj e
    rw [ed] at q2
    unfold forD at q2
    obtain ⟨hok, σ3, e3, q3⟩ := q2
    refine .inr ⟨it.go i d α2 G2 F H2 st2 s2 P2 S2 hok e, fun σ' H' => ∃ α' σd' st' G', Step α1 G1 α' G' ∧ Spl G' F H' ∧ RelS α' G' σd' σ' ∧ StRel α' st' G' ∧ forD tg t ok DD (xs.drop (i + 1)) σd' st', ?_, ?_⟩
    · rintro σ' H' ⟨α', σd', st', G', z1, z2, z3, z4, z5⟩
      exact ⟨xs.length - (i + 1), by omega, α', σd', st', G', z1, z2, z3, z4, z5, rfl⟩
    · intro x H' y
      obtain ⟨G3, s3, P3, S3, r3⟩ := it.yld i d α2 G2 F H2 st2 x H' s2 P2 S2 hok e y
      refine ⟨α2, σd2, st2, d, fun σ' st' => σ' = σ3 ∧ st' = st2, G3, F, P3, R2.step s3, S3, r3, ⟨σ3, e3, rfl, rfl⟩, ?_⟩
      rintro σ' st' ⟨rfl, rfl⟩ α4 G4 H4 σ4 s4 P4 R4 S4
      have s24 := (s2.trans s3).trans s4
      refine ⟨α4, σ', st', _, G4, F, P4, R4, S4, q3, ?_, ((k.rt.at s1).at s24), (k.nx.at s1).at s24, ?_⟩
      · intro σd5 st5 q5 α5 G5 H5 σ5 s5 P5 R5 S5
        exact ⟨α5, σd5, st5, G5, s24.trans s5, P5, R5, S5, q5⟩
      · intro σd5 st5 q5 α5 G5 H5 σ5 s5 P5 R5 S5
        exact ⟨α5, σd5, st5, G5, s24.trans s5, P5, R5, S5, q5⟩
end
end L3
namespace L3
open PySem PySem.Spec L2
open PyProof.Rows hiding St
def σCd (fr : List (Option Nat)) (σ : DEnv) : DEnv := fr.map fun o => o.bind fun j => (σ[j]?).join
theorem RelS.comp {α : List (Option Addr)} {G : Hp} {σd : DEnv} {σ : L2.St} {fr : List (Option Nat)} (h : RelS α G σd σ) : RelS α G (σCd fr σd) (σC fr σ) := by
  refine ⟨by unfold σCd σC; simp, fun i d e => ?_⟩
  unfold σCd at e
  rw [List.getElem?_map] at e
  cases q : fr[i]? with
  | none => rw [q] at e; cases e
  | some o =>
    rw [q] at e
    cases o with
    | none => simp at e
    | some j =>
      simp only [Option.map_some, Option.some.injEq, Option.bind_some] at e
      have ej : σd[j]? = some (some d) := by
        cases r : σd[j]? with
        | none => rw [r] at e; cases e
        | some u => rw [r] at e; simp at e; rw [e]
      obtain ⟨v, ev, rv⟩ := h.at' j d ej
      refine ⟨v, ?_, rv⟩
      unfold σC
      rw [List.getElem?_map, q]
      simp [ev]
def compD (tg : DTg) (c : DT) (te : DE) (ok : Store → Prop) (σc : DEnv) : List D → List D → Store → (List D → Store → Prop) → Prop
  | [], acc, st, K => ok st ∧ K acc st
  | x :: xs, acc, st, K => ok st ∧ ∃ σ2, tg x σc = some σ2 ∧ c σ2 st fun b st1 => if b = true then te σ2 st1 fun y st2 => compD tg c te ok σc xs (acc ++ [y]) st2 K else compD tg c te ok σc xs acc st1 K
def dComp (src : DI) (fr : List (Option Nat)) (tg : DTg) (c : DT) (te : DE) : DE := fun σ st K => src σ st fun xs ok st1 => xs.length ≤ sizeLine ∧ compD tg c te ok (σCd fr σ) xs [] st1 fun ys st2 => K (.lst ys) st2
def dCompN (src : DI) (fr : List (Option Nat)) (tg : DTg) (c : DT) (te : DE) : DE := fun σ st K => src σ st fun xs ok st1 => xs.length ≤ sizeLine ∧ compD tg c te ok (σCd fr σ) xs [] st1 fun ys st2 => K (.ref st2.length) (st2 ++ [.lst ys])
def dTrue : DT := fun _ st K => K true st
def Fit (fr : List (Option Nat)) (tg : DTg) : Prop := ∀ (σ : DEnv) (d : D) (σ2 : DEnv), tg d (σCd fr σ) = some σ2 → σ2.length = (σCd fr σ).length ∧ ∀ (i : Nat) (e : D), (σCd fr σ)[i]? = some (some e) → σ2[i]? = some (some e)
theorem σCd_none {fr : List (Option Nat)} {σ : DEnv} {k : Nat} (h : fr[k]? = some none) {e : D} (q : (σCd fr σ)[k]? = some (some e)) : False := by
  unfold σCd at q
  rw [List.getElem?_map, h] at q
  simp at q
theorem fit_name {fr : List (Option Nat)} {k : Nat} (h : fr[k]? = some none := by rfl) : Fit fr (tgName k) := fun σ d σ2 e => by
  cases e
  refine ⟨List.length_set, fun i x q => ?_⟩
  by_cases hi : i = k
  · subst hi; exact (σCd_none h q).elim
  · rw [List.getElem?_set_ne (Ne.symm hi)]; exact q
theorem fit_two {fr : List (Option Nat)} {k j : Nat} (h : fr[k]? = some none := by rfl) (h' : fr[j]? = some none := by rfl) : Fit fr (tgTwo k j) := fun σ d σ2 e => by
  unfold tgTwo at e
  split at e
  · cases e
    refine ⟨by rw [List.length_set, List.length_set], fun i x q => ?_⟩
    by_cases hi : i = k
    · subst hi; exact (σCd_none h q).elim
    · by_cases hj : i = j
      · subst hj; exact (σCd_none h' q).elim
      · rw [List.getElem?_set_ne (Ne.symm hj), List.getElem?_set_ne (Ne.symm hi)]; exact q
  · cases e
section
variable {X : Cx}
theorem pts_true : PTs X [] (LT dTrue) := fun pins s σ H Q I ⟨α, σd, st, K, G, F, P, R, S, t, k⟩ => pts_nil pins s σ H Q I (k true st t α G H Step.refl P S)
theorem LE.comp {src : DI} {fr : List (Option Nat)} {tg : DTg} {c : DT} {te : DE} (fit : Fit fr tg) {σ : L2.St} {H : Hp} {Q : VK} {α : List (Option Addr)} {σd : DEnv} {st : Store} {KE : List D → Store → Prop} {G F : Hp} (P : Spl G F H) (R : RelS α G σd σ) (S : StRel α st G)
    (t : src σd st fun xs ok st1 => xs.length ≤ sizeLine ∧ compD tg c te ok (σCd fr σd) xs [] st1 KE)
    (fin : ∀ ys st2 α2 G2 H2 l vs, KE ys st2 → Step α G α2 G2 → Spl G2 (upd F l (.lst vs)) H2 → F l = none → StRel α2 st2 G2 → Reps α2 G2 ys vs → Q (.ref l) H2) :
    tComp (LI src) fr (LG tg) (LT c) (LE te) σ H Q := by
  refine ⟨α, σd, st, _, G, F, P, R, S, t, fun xs ok st1 q J α1 G1 H1 s1 P1 S1 it l hl => ?_⟩
  obtain ⟨hsz, q⟩ := q
  obtain ⟨hG, hF⟩ := P1.none hl
  refine ⟨fun i m σ' H' => ∃ α' st' G' acc vs, Step α1 G1 α' G' ∧ Spl G' (upd F l (.lst vs)) H' ∧ RelS α' G' (σCd fr σd) σ' ∧ StRel α' st' G' ∧ Reps α' G' acc vs ∧ acc.length ≤ i ∧ i ≤ xs.length ∧ compD tg c te ok (σCd fr σd) (xs.drop i) acc st' KE ∧ m = xs.length - i,
    ⟨xs.length, α1, st1, G1, [], [], Step.refl, P1.hide hl, (R.step s1).comp, S1, by unfold Reps; rfl, Nat.le_refl _, Nat.zero_le _, q, rfl⟩, ?_⟩
  rintro i m σ2 H2 ⟨α2, st2, G2, acc, vs, s2, P2, R2, S2, ra, hacc, hi, q2, rfl⟩
  cases e : xs[i]? with
  | none =>
    have hl2 : xs.length ≤ i := List.getElem?_eq_none_iff.mp e
    rw [List.drop_eq_nil_of_le hl2] at q2
    unfold compD at q2
    exact .inl ⟨it.stop i α2 G2 _ H2 st2 s2 P2 S2 q2.1 hl2, fin acc st2 α2 G2 H2 l vs q2.2 (s1.trans s2) P2 hF S2 ra⟩
  | some d =>
    have hl2 : i < xs.length := (List.getElem?_eq_some_iff.mp e).1
    have ed : xs.drop i = d :: xs.drop (i + 1) := by
      rw [List.drop_eq_getElem_cons hl2]
      congr 1
      rw [List.getElem?_eq_getElem hl2] at e
      exact Option.some.inj e
    rw [ed] at q2
    unfold compD at q2
    obtain ⟨hok, σ3, e3, q3⟩ := q2
    refine .inr ⟨it.go i d α2 G2 _ H2 st2 s2 P2 S2 hok e, fun σ' H' => ∃ α' st' G' acc vs, Step α1 G1 α' G' ∧ Spl G' (upd F l (.lst vs)) H' ∧ RelS α' G' (σCd fr σd) σ' ∧ StRel α' st' G' ∧ Reps α' G' acc vs ∧ acc.length ≤ i + 1 ∧ compD tg c te ok (σCd fr σd) (xs.drop (i + 1)) acc st' KE, ?_, ?_⟩
    · rintro σ' H' ⟨α', st', G', acc', vs', z1, z2, z3, z4, z5, z6, z7⟩
      exact ⟨xs.length - (i + 1), by omega, α', st', G', acc', vs', z1, z2, z3, z4, z5, z6, hl2, z7, rfl⟩
    · intro x H' y
      obtain ⟨G3, s3, P3, S3, r3⟩ := it.yld i d α2 G2 _ H2 st2 x H' s2 P2 S2 hok e y
      refine ⟨α2, σCd fr σd, st2, d, fun σ' st' => σ' = σ3 ∧ st' = st2, G3, _, P3, R2.step s3, S3, r3, ⟨σ3, e3, rfl, rfl⟩, ?_⟩
      rintro σ' st' ⟨rfl, rfl⟩ α4 G4 H4 σ4 s4 P4 R4 S4
      have s24 := (s2.trans s3).trans s4
      have Rc : RelS α4 G4 (σCd fr σd) σ4 := ⟨by rw [← (fit σd d σ' e3).1]; exact R4.len, fun j z hz => R4.at' j z ((fit σd d σ' e3).2 j z hz)⟩
      refine ⟨α4, σ', st', _, G4, _, P4, R4, S4, q3, fun b st5 q5 α5 G5 H5 s5 P5 S5 => ?_⟩
      cases b with
      | false => exact ⟨α5, st5, G5, acc, vs, s24.trans s5, P5, Rc.step s5, S5, ((ra.step s3).step s4).step s5, by omega, q5⟩
      | true =>
        refine ⟨α5, σ', st5, _, G5, _, P5, R4.step s5, S5, q5, fun z st6 q6 α6 G6 H6 v6 s6 P6 S6 r6 => ?_⟩
        have hr := (((ra.step s3).step s4).step s5).step s6
        refine ⟨vs, (P6.frame upd_same).1, by rw [← hr.length]; omega, α6, st6, G6, acc ++ [z], vs ++ [v6], (s24.trans s5).trans s6, ?_, (Rc.step s5).step s6, S6, reps_paired.mpr (paired_append (reps_paired.mp hr) (.cons r6 .nil)), by rw [List.length_append, List.length_singleton]; omega, q6⟩
        have := P6.hid (p := l) (o' := .lst (vs ++ [v6])) upd_same
        rw [upd_upd] at this
        exact this
theorem d_comp {scope : Scope} {Nc : List Str} {elt tg iter : Expr} {ifs : List Expr} {pos : Pos} {src : DI} {fr : List (Option Nat)} {dtg : DTg} {c : DT} {te : DE} (S : CompSc X scope Nc fr) (hi : PI X tg iter (LI src))
    (hg : ∀ C s H ex, PG (cxC X scope Nc C s H ex) tg (LG dtg)) (ht : ∀ C s H ex, PTs (cxC X scope Nc C s H ex) ifs (LT c)) (he : ∀ C s H ex, PE (cxC X scope Nc C s H ex) elt (LE te)) (fit : Fit fr dtg)
    (hx : X.xe = fun _ _ => False := by rfl) (hc : X.calm = true := by rfl) (hs : ∀ x, foldedSetIterable iter X.env x = pure x := by intro _; rfl) : PE X (.ListComp elt [⟨tg, iter, ifs, 0⟩] scope pos) (LE (dComp src fr dtg c te)) :=
  PE.imp (pe_comp hx hc S hi hg ht he hs) fun σ H Q ⟨α, σd, st, K, G, F, P, R, S, t, k⟩ => LE.comp fit P R S t fun ys st2 α2 G2 H2 l vs q s2 P2 hl S2 r => by
    have hg : G2 l = none := (P2.frame upd_same).2
    refine k _ st2 q α2 (upd G2 l (.lst vs)) H2 (.ref l) (s2.trans (Step.laid hg)) (P2.show hl) (S2.laid hg) ?_
    unfold Rep
    exact ⟨l, vs, rfl, S2.notin hg, .of upd_same, r.step (Step.laid hg)⟩
theorem d_compN {scope : Scope} {Nc : List Str} {elt tg iter : Expr} {ifs : List Expr} {pos : Pos} {src : DI} {fr : List (Option Nat)} {dtg : DTg} {c : DT} {te : DE} (S : CompSc X scope Nc fr) (hi : PI X tg iter (LI src))
    (hg : ∀ C s H ex, PG (cxC X scope Nc C s H ex) tg (LG dtg)) (ht : ∀ C s H ex, PTs (cxC X scope Nc C s H ex) ifs (LT c)) (he : ∀ C s H ex, PE (cxC X scope Nc C s H ex) elt (LE te)) (fit : Fit fr dtg)
    (hx : X.xe = fun _ _ => False := by rfl) (hc : X.calm = true := by rfl) (hs : ∀ x, foldedSetIterable iter X.env x = pure x := by intro _; rfl) : PE X (.ListComp elt [⟨tg, iter, ifs, 0⟩] scope pos) (LE (dCompN src fr dtg c te)) :=
  PE.imp (pe_comp hx hc S hi hg ht he hs) fun σ H Q ⟨α, σd, st, K, G, F, P, R, S, t, k⟩ => LE.comp fit P R S t fun ys st2 α2 G2 H2 l vs q s2 P2 hl S2 r => by
    have hg : G2 l = none := (P2.frame upd_same).2
    refine k _ _ q (α2 ++ [some l]) (upd G2 l (.lst vs)) H2 (.ref l) (s2.trans (Step.cell hg)) (P2.show hl) (S2.cell hg ⟨vs, upd_same, r.step (Step.cell hg)⟩) ?_
    unfold Rep
    refine .inr ⟨l, ?_, rfl⟩
    rw [List.getElem?_append_right (by rw [S2.len]; exact Nat.le_refl _), S2.len, Nat.sub_self]
    rfl
theorem ds_setC {st : Stmt} {k : Nat} {src : DI} {fr : List (Option Nat)} {dtg : DTg} {c : DT} {te : DE} (fit : Fit fr dtg) (h : PS X st (tAsg (tComp (LI src) fr (LG dtg) (LT c) (LE te)) (gName k))) : PS X st (LS (dSet k (dComp src fr dtg c te))) :=
  PS.imp h fun D σ H ⟨α, σd, st, DD, G, F, P, R, S, t, q⟩ => LE.comp fit P R S t fun ys st2 α2 G2 H2 l vs qq s2 P2 hl S2 r => by
    have hg : G2 l = none := (P2.frame upd_same).2
    have s3 := s2.trans (Step.laid (o := .lst vs) hg)
    refine q.nx _ st2 qq α2 (upd G2 l (.lst vs)) H2 _ s3 (P2.show hl) ((R.step s3).set k ?_) (S2.laid hg)
    unfold Rep
    exact ⟨l, vs, rfl, S2.notin hg, .of upd_same, r.step (Step.laid hg)⟩
theorem ds_setCN {st : Stmt} {k : Nat} {src : DI} {fr : List (Option Nat)} {dtg : DTg} {c : DT} {te : DE} (fit : Fit fr dtg) (h : PS X st (tAsg (tComp (LI src) fr (LG dtg) (LT c) (LE te)) (gName k))) : PS X st (LS (dSet k (dCompN src fr dtg c te))) :=
  PS.imp h fun D σ H ⟨α, σd, st, DD, G, F, P, R, S, t, q⟩ => LE.comp fit P R S t fun ys st2 α2 G2 H2 l vs qq s2 P2 hl S2 r => by
    have hg : G2 l = none := (P2.frame upd_same).2
    have s3 := s2.trans (Step.cell (o := .lst vs) hg)
    refine q.nx _ _ qq (α2 ++ [some l]) (upd G2 l (.lst vs)) H2 _ s3 (P2.show hl) ((R.step s3).set k ?_) (S2.cell hg ⟨vs, upd_same, r.step (Step.cell hg)⟩)
    unfold Rep
    refine .inr ⟨l, ?_, rfl⟩
    rw [List.getElem?_append_right (by rw [S2.len]; exact Nat.le_refl _), S2.len, Nat.sub_self]
    rfl
def startD (N : List Str) (ds : List D) : DEnv := ds.map some ++ List.replicate (N.length - ds.length) none
theorem RelS.start {α : List (Option Addr)} {G : Hp} {N : List Str} {ds : List D} {vs : List V} (r : Reps α G ds vs) : RelS α G (startD N ds) (L2.start N vs) := by
  have hl := r.length
  refine ⟨by unfold startD L2.start; simp [hl], fun i d e => ?_⟩
  unfold startD at e
  by_cases hi : i < ds.length
  · rw [List.getElem?_append_left (by simpa using hi), List.getElem?_map] at e
    cases q : ds[i]? with
    | none => rw [q] at e; cases e
    | some x =>
      rw [q] at e
      cases e
      obtain ⟨v, ev, rv⟩ := r.get q
      refine ⟨v, ?_, rv⟩
      unfold L2.start
      rw [List.getElem?_append_left (by rw [List.length_map]; omega), List.getElem?_map, ev]
      rfl
  · rw [List.getElem?_append_right (by simpa using hi), List.getElem?_replicate] at e
    split at e <;> cases e
theorem d_def {P : Program} {w : World} {K : PySem.W.Frag} {mg : Str → Option Value} {base : Heap} {x qual : Str} {st : Stmt} {f : Addr} {fd : FuncData} {N ps : List Str} {k : Nat} {sp : DSp} {t : DS} (F : Fun K x qual st f fd) (S : FnScope N ps (defScope st))
    (hbody : ∀ (cdv : Value) (A : Around) (outer : List Env) (s : Shared) (H : Hp) (E : XK), Room k (A.deeper (envOfC qual (defScope st) s.heap.objs.size f cdv)) → PSs (cxOf CX0 P w K mg base N qual (defScope st) f cdv A outer s H E).nox (defBody st) (LS t))
    (hsp : ∀ ds st K, sp ds st K → ds.length = ps.length ∧ t { nx := fun _ st' => K .non st', rt := K } (startD N ds) st) : FnOk P w K mg base CX0 (k + 1) f fd ps (LSp sp) := by
  refine F.ok S (fun vs H Q E h => ?_) fun cdv A outer s H vs Q E hr h => ⟨_, hbody cdv A outer s H E hr, ?_⟩
  · obtain ⟨α, ds, st, K, G, F, P, r, S, q, k⟩ := h
    rw [← r.length]
    exact (hsp ds st K q).1
  · obtain ⟨α, ds, st, K, G, F, P, r, S, q, k⟩ := h
    refine ⟨α, startD N ds, st, _, G, F, P, RelS.start r, S, (hsp ds st K q).2, ?_, k, ?_, ?_⟩
    · intro σd' st' kk α' G' H' σ' s' P' R' S'
      exact k .non st' kk α' G' H' .non s' P' S' (by unfold Rep; rfl)
    · intro σd' st' kk
      exact kk.elim
    · intro σd' st' kk
      exact kk.elim
def dAppend (to te : DE) : DE := fun σ st K => to σ st fun x st1 => match x with
  | .ref n => (match st1[n]? with
    | some (.lst _) => te σ st1 fun y st2 => ∃ y', [y] = [y'] ∧ (match st2[n]? with | some (.lst xs) => xs.length < sizeLine ∧ K .non (st2.set n (.lst (xs ++ [y']))) | _ => False)
    | _ => False)
  | _ => False
end
end L3
namespace L3
open PySem PySem.Spec L2
open PyProof.Rows hiding St
structure DefAt (K : PySem.W.Frag) (mg : Str → Option Value) (x qual : Str) (st : Stmt) (ps : List Str) (f : Addr) (fd : FuncData) : Prop where
  fn : Fun K x qual st f fd
  mg : mg x = some (.ref f)
  bd : Binds K fd ps []
def compOk (sc : Scope) (N : List Str) (scope : Scope) (Nc : List Str) (fr : List (Option Nat)) : Bool :=
  (scope.kind == .function) && scope.names.all (fun x => x.2 != .cell || scope.names.lookup x.1 == some .cell) && scope.names.all (fun x => x.2 != .local || scope.names.lookup x.1 == some .local) &&
  scope.names.all (fun x => x.2 != .free || sc.names.lookup x.1 == some .cell || sc.names.lookup x.1 == some .free) && (fr.length == Nc.length) &&
  (List.range fr.length).all fun i => match fr[i]?, Nc[i]? with
    | some (some j), some x => (N[j]? == some x) && (scope.names.lookup x == some .free) && (sc.names.lookup x == some .cell || sc.names.lookup x == some .free)
    | _, _ => true
theorem CompSc.look {X : Cx} {scope : Scope} {Nc : List Str} {fr : List (Option Nat)} (sc : Scope) (N : List Str) (h : compOk sc N scope Nc fr = true) (hsc : X.env.scope = sc := by rfl) (hN : X.N = N := by rfl) : CompSc X scope Nc fr := by
  unfold compOk at h
  simp only [Bool.and_eq_true] at h
  obtain ⟨⟨⟨⟨⟨h1, h2⟩, h3⟩, h4⟩, h5⟩, h6⟩ := h
  subst hsc hN
  refine ⟨by simpa using h1, fun x hx hk => ?_, fun x hx hk => ?_, fun x hx hk => ?_, by simpa using h5, fun i j x e1 e2 => ?_⟩
  · have := List.all_eq_true.mp h2 x hx
    rw [hk] at this
    simpa using this
  · have := List.all_eq_true.mp h3 x hx
    rw [hk] at this
    simpa using this
  · have := List.all_eq_true.mp h4 x hx
    rw [hk] at this
    have z : X.env.scope.names.lookup x.1 = some .cell ∨ X.env.scope.names.lookup x.1 = some .free := by simpa using this
    exact z
  · have hi : i < fr.length := (List.getElem?_eq_some_iff.mp e2).1
    have := List.all_eq_true.mp h6 i (List.mem_range.mpr hi)
    rw [e1, e2] at this
    simp only [Bool.and_eq_true, Bool.or_eq_true, beq_iff_eq] at this
    exact ⟨this.1.1, this.1.2, this.2⟩
section
variable {X : Cx}
theorem d_cb {e : Expr} {es : List Expr} {pos p : Pos} {x : Str} {id : String} {r : DRA} {t : DA} (hc : CallR X (.builtin id) (LRA r)) (ha : PA X (e :: es) (LA t)) (hm : X.mg x = none) (hv : bootBuiltins x = some (.builtin id)) (hg : Gl X x := by rfl) (hn : x ≠ "__name__" := by decide) (hdb : (x == ("__debug__" : Str)) = false := by decide)
    (he : starEach (e :: es) X.env = (false, eval e X.env) :: starEach es X.env := by rfl) (hpl : (backTo pos (starEach es X.env)).any (·.1) = false := by rfl) : PE X (.Call (.Name x p) (e :: es) [] pos) (LE (dCB r t)) := PE.imp (pe_callB hc hg hm hv ha hn hdb he hpl) fun _ _ _ h => LE.cb h
theorem d_ct {e : Expr} {es : List Expr} {pos p : Pos} {x : Str} {T : String} {r : DRA} {t : DA} (hc : CallR X (.type T) (LRA r)) (ha : PA X (e :: es) (LA t)) (hm : X.mg x = none) (hv : bootBuiltins x = some (.type T)) (hg : Gl X x := by rfl) (hn : x ≠ "__name__" := by decide) (hdb : (x == ("__debug__" : Str)) = false := by decide)
    (he : starEach (e :: es) X.env = (false, eval e X.env) :: starEach es X.env := by rfl) (hpl : (backTo pos (starEach es X.env)).any (·.1) = false := by rfl) : PE X (.Call (.Name x p) (e :: es) [] pos) (LE (dCB r t)) := PE.imp (pe_callTy hc hg hm hv ha hn hdb he hpl) fun _ _ _ h => LE.cb h
theorem d_ty {pos : Pos} {x : Str} {T : String} (hm : X.mg x = none) (hv : bootBuiltins x = some (.type T)) (hg : Gl X x := by rfl) (hn : x ≠ "__name__" := by decide) (hdb : (x == ("__debug__" : Str)) = false := by decide) : PE X (.Name x pos) (LE (dC (.ty T))) :=
  d_const (v := .ty T) (pe_bltn hg hm hv rfl hn hdb) fun _ _ => by unfold Rep; rfl
theorem d_fn {e : Expr} {es : List Expr} {pos p : Pos} {x qual : Str} {st : Stmt} {ps : List Str} {f : Addr} {fd : FuncData} {k : Nat} {S : DSp} {t : DA} (A : DefAt X.K X.mg x qual st ps f fd) (F : FnOk X.prog X.w X.K X.mg X.base CX0 k f fd ps (LSp S)) (hr : Room k X.A)
    (ha : PA X (e :: es) (LA t)) (hg : Gl X x := by rfl) (hdb : (x == ("__debug__" : Str)) = false := by decide) (he : starEach (e :: es) X.env = (false, eval e X.env) :: starEach es X.env := by rfl) (hpl : (backTo pos (starEach es X.env)).any (·.1) = false := by rfl) :
    PE X (.Call (.Name x p) (e :: es) [] pos) (LE (dCall S t)) := d_call F hr hg A.mg A.fn.kp A.bd ha hdb he hpl
theorem is_bool_gen {M : Model} {A : Around} {E : Value → Shared → Prop} {s : Shared} {Q : Value → Shared → Prop} {x : V} {v : Value} {b : Bool} (r : RelV x v) (h : Q (.bool (v == .bool b)) s) : wpAny M A (compareOp .Is v (.bool b)) Q E s := by
  cases x
  case bl c =>
    cases r
    have e : (Value.bool c == Value.bool b) = (c == b) := by cases c <;> cases b <;> rfl
    rw [e] at h
    exact is_bool h
  all_goals first
    | (cases r; exact wpAny_pure h)
    | (obtain ⟨t, rfl⟩ := r; exact wpAny_pure h)
def isB (d : D) (b : Bool) : Bool := match d with | .bl c => c == b | _ => false
def isN (d : D) : Bool := match d with | .non => true | _ => false
def dIsR' : DR2 := fun x y st K => match y with | .non => live st x = true ∧ K (.bl (isN x)) st | .bl b => live st x = true ∧ K (.bl (isB x b)) st | _ => False
theorem rel_beq {α : List (Option Addr)} {H : Hp} {st : Store} {d : D} {v : V} {u : Value} {b : Bool} (S : StRel α st H) (hl : live st d = true) (r : Rep α H d v) (ru : RelV v u) : (u == Value.bool b) = isB d b := by
  cases d
  case ref n =>
    obtain ⟨a, rfl⟩ := live_ref S hl r
    cases ru; rfl
  all_goals unfold Rep at r
  case bl c =>
    subst r
    cases ru
    cases c <;> cases b <;> rfl
  all_goals first
    | (subst r; first | (cases ru; rfl) | (obtain ⟨t, rfl⟩ := ru; rfl))
    | (obtain ⟨a, vs, rfl, _⟩ := r; cases ru; rfl)
theorem o_is' : OpR X (compareOp .Is) (LR dIsR') := fun pins s σ H x y v u Q I rx ry ⟨α, d, e, st, K, G, F', P, r1, r2, S, q, k⟩ => by
  cases e <;> try exact q.elim
  · unfold Rep at r2
    refine op_isN pins s σ H x y v u Q I rx ry ⟨r2, k.here P q.2 S ?_⟩
    unfold Rep
    cases d
    case ref n =>
      obtain ⟨a, rfl⟩ := live_ref S q.1 r1
      rfl
    all_goals (unfold Rep at r1; first | (rw [r1]; rfl) | (obtain ⟨a, vs, rfl, _⟩ := r1; rfl))
  · rename_i b
    unfold Rep at r2
    subst r2
    cases ry
    refine is_bool_gen rx ?_
    rw [rel_beq S q.1 r1 rx]
    exact ⟨.bl (isB d b), H, I, rfl, k.here P q.2 S (by unfold Rep; rfl)⟩
theorem LE.append {to te : DE} {σ : L2.St} {H : Hp} {Q : VK} (h : LE (dAppend to te) σ H Q) : tBM X.K "list" rAppend (LE to) (LA (dCons te dNil)) σ H Q := by
  obtain ⟨α, σd, st, K, G, F, P, R, S, t, k⟩ := h
  refine ⟨α, σd, st, _, G, F, P, R, S, t, fun x st1 q α1 G1 H1 v s1 P1 S1 r1 => ?_⟩
  cases x <;> try exact q.elim
  rename_i n
  simp only at q
  split at q
  · rename_i ys e
    obtain ⟨p, ep, vs, h1, h2⟩ := S1.lstAt e
    have r1' := rep_at ep r1
    subst r1'
    refine ⟨.inl ⟨rfl, vs, .inl (.of (P1.get h1))⟩, α1, σd, st1, fun ds st2 => ∃ y, ds = [y] ∧ (match st2[n]? with | some (.lst xs) => xs.length < sizeLine ∧ K .non (st2.set n (.lst (xs ++ [y]))) | _ => False), G1, F, P1, R.step s1, S1, ?_, ?_⟩
    · refine Eq.mp ?_ q
      rfl
    · rintro ds st2 ⟨y, rfl, q2⟩ α2 G2 H2 ws s2 P2 S2 r2
      obtain ⟨w, rfl, rw'⟩ := reps1 r2 rfl
      split at q2
      · rename_i xs e2
        obtain ⟨p2, ep2, us, g1, g2⟩ := S2.lstAt e2
        have : p2 = p := by
          rcases s2.pre _ _ ep with z | z <;> (rw [z] at ep2; cases ep2)
          rfl
        subst this
        have hm : some p2 ∈ α2 := List.mem_of_getElem? ep2
        refine ⟨p2, us, w, rfl, rfl, P2.get g1, by rw [← g2.length]; exact q2.1, ?_⟩
        refine ((k.at s1).at s2) _ _ q2.2 α2 (upd G2 p2 (.lst (us ++ [w]))) _ .non (Step.write hm) (P2.write g1) ?_ (by unfold Rep; rfl)
        exact S2.write ep2 ⟨us ++ [w], upd_same, (reps_paired.mpr (paired_append (reps_paired.mp g2) (.cons rw' .nil))).step (Step.write hm)⟩
      · exact q2.elim
  · exact q.elim
end
end L3
namespace L3
open PySem L2
open PySem.Spec hiding items?
open PyProof.Rows hiding St
section
variable {X : Cx}
@[irreducible] def xAdd : DR2 := dAddR
theorem x_add : OpR X (binaryOp .Add) (LR xAdd) := by unfold xAdd; exact o_add
@[irreducible] def xSub : DR2 := dSubR
theorem x_sub : OpR X (binaryOp .Sub) (LR xSub) := by unfold xSub; exact o_sub
@[irreducible] def xMul : DR2 := dMulR
theorem x_mul : OpR X (binaryOp .Mult) (LR xMul) := by unfold xMul; exact o_mul
@[irreducible] def xFdiv : DR2 := dFdivR
theorem x_fdiv : OpR X (binaryOp .FloorDiv) (LR xFdiv) := by unfold xFdiv; exact o_fdiv
@[irreducible] def xMod : DR2 := dModR
theorem x_mod : OpR X (binaryOp .Mod) (LR xMod) := by unfold xMod; exact o_mod
@[irreducible] def xPow : DR2 := dPowR
theorem x_pow : OpR X (binaryOp .Pow) (LR xPow) := by unfold xPow; exact o_pow
@[irreducible] def xLt : DR2 := dLtR
theorem x_lt : OpR X (compareOp .Lt) (LR xLt) := by unfold xLt; exact o_lt
@[irreducible] def xGt : DR2 := dGtR
theorem x_gt : OpR X (compareOp .Gt) (LR xGt) := by unfold xGt; exact o_gt
@[irreducible] def xGe : DR2 := dGeR
theorem x_ge : OpR X (compareOp .GtE) (LR xGe) := by unfold xGe; exact o_ge
@[irreducible] def xNe : DR2 := dNeR
theorem x_ne : OpR X (compareOp .NotEq) (LR xNe) := by unfold xNe; exact o_ne
@[irreducible] def xIs : DR2 := dIsR'
theorem x_is : OpR X (compareOp .Is) (LR xIs) := by unfold xIs; exact o_is'
@[irreducible] def xEq : DR2 := dEqR
theorem x_eq {k : Nat} (hr : Room k X.A) : OpR X (compareOp .Eq) (LR xEq) := by unfold xEq; exact o_eq hr
@[irreducible] def xNeg : DR1 := dNegR
theorem x_neg : UnR X (unaryOp .USub) (LR1 xNeg) := by unfold xNeg; exact o_neg
@[irreducible] def xIx : DR2 := dIxR
theorem x_ix {a b : Expr} {ta tb : DE} {pos : Pos} (ha : PE X a (LE ta)) (hb : PE X b (LE tb)) (hs : PlainIx b := by intro _ _; rfl) : PE X (.Subscript a b pos) (LE (dOp xIx ta tb)) := by unfold xIx; exact d_ix ha hb hs
@[irreducible] def xLen : DRA := dLenR
theorem x_len : CallR X (.builtin "len") (LRA xLen) := by unfold xLen; exact c_len
@[irreducible] def xAbs : DRA := dAbsR
theorem x_abs : CallR X (.builtin "abs") (LRA xAbs) := by unfold xAbs; exact c_abs
@[irreducible] def xMax : DRA := dMaxR
theorem x_max (hc : X.calm = true) : CallR X (.builtin "max") (LRA xMax) := by unfold xMax; exact c_max hc
@[irreducible] def xMin : DRA := dMinR
theorem x_min (hc : X.calm = true) : CallR X (.builtin "min") (LRA xMin) := by unfold xMin; exact c_min hc
@[irreducible] def xInt : DRA := dIntR
theorem x_int : CallR X (.type "int") (LRA xInt) := by unfold xInt; exact c_int
@[irreducible] def xTuple : DRA := dTupleR
theorem x_tuple : CallR X (.type "tuple") (LRA xTuple) := by unfold xTuple; exact c_tuple
@[irreducible] def xList : DRA := dListR
theorem x_list : CallR X (.type "list") (LRA xList) := by unfold xList; exact c_list
@[irreducible] def xAll : DRA := dAllR
theorem x_all (hc : X.calm = true) : CallR X (.builtin "all") (LRA xAll) := by unfold xAll; exact c_all hc
@[irreducible] def xIsi : DRA := dIsiR
theorem x_isi : CallR X (.builtin "isinstance") (LRA xIsi) := by unfold xIsi; exact c_isi
@[irreducible] def xSeq : D → Store → (List D → (Store → Prop) → Store → Prop) → Prop := seqR
def xSeqI (t : DE) : DI := fun σ st K => t σ st fun d st1 => xSeq d st1 K
theorem xi_seq {l tg : Expr} {tl : DE} (hl : PE X l (LE tl)) : PI X tg l (LI (xSeqI tl)) := by unfold xSeqI xSeq; exact di_seq hl
@[irreducible] def xRng1 : List D → Store → (List D → (Store → Prop) → Store → Prop) → Prop := rng1R
@[irreducible] def xRng2 : List D → Store → (List D → (Store → Prop) → Store → Prop) → Prop := rng2R
def xRange1 (t : DA) : DI := fun σ st K => t σ st fun ds st1 => xRng1 ds st1 K
def xRange2 (t : DA) : DI := fun σ st K => t σ st fun ds st1 => xRng2 ds st1 K
theorem xi_range1 {tg iter : Expr} {t : DA} (h : PI X tg iter (iRng1 (LA t))) : PI X tg iter (LI (xRange1 t)) := by unfold xRange1 xRng1; exact di_range1 h
theorem xi_range2 {tg iter : Expr} {t : DA} (h : PI X tg iter (iRng2 (LA t))) : PI X tg iter (LI (xRange2 t)) := by unfold xRange2 xRng2; exact di_range2 h
@[irreducible] def xSet : D → D → D → Store → (Store → Prop) → Prop := setR
def xSetIx (to ti te : DE) : DS := fun D σ st => te σ st fun d st1 => to σ st1 fun x st2 => ti σ st2 fun y st3 => xSet x y d st3 fun st4 => D.nx σ st4
theorem xs_setIx {st : Stmt} {to ti te : DE} (h : PS X st (tAsg (LE te) (gSub (LE to) (LE ti) rSetL))) : PS X st (LS (xSetIx to ti te)) := by unfold xSetIx xSet; exact ds_setIx h
end
section
variable {st : Store} {K : DK} {i j : Int} {b c : Bool} {xs ys : List D} {d e : D} {n : Nat}
theorem st_add (k : K (.int (i + j)) st) : xAdd (.int i) (.int j) st K := by unfold xAdd; exact k
theorem st_sub (k : K (.int (i - j)) st) : xSub (.int i) (.int j) st K := by unfold xSub; exact ⟨trivial, k⟩
theorem st_mul (h : IntMulOk i j) (k : K (.int (i * j)) st) : xMul (.int i) (.int j) st K := by unfold xMul; exact ⟨h, k⟩
theorem st_mulL (h : -(2 ^ 63) ≤ i ∧ i < 2 ^ 63 ∧ xs.length * i.toNat ≤ sizeLine) (k : K (.lst (List.replicate i.toNat xs).flatten) st) : xMul (.lst xs) (.int i) st K := by unfold xMul; exact ⟨h, k⟩
theorem st_fdiv (h0 : j ≠ 0) (h : j.natAbs.log2 < 9000) (k : K (.int (i.fdiv j)) st) : xFdiv (.int i) (.int j) st K := by unfold xFdiv; exact ⟨⟨h0, h⟩, k⟩
theorem st_mod (h0 : j ≠ 0) (k : K (.int (i.fmod j)) st) : xMod (.int i) (.int j) st K := by unfold xMod; exact ⟨h0, k⟩
theorem st_pow (h : CPow i j) (k : K (.int (i ^ j.toNat)) st) : xPow (.int i) (.int j) st K := by unfold xPow; exact ⟨h, k⟩
theorem st_lt (k : K (.bl (decide (i < j))) st) : xLt (.int i) (.int j) st K := by unfold xLt; exact ⟨trivial, k⟩
theorem st_gt (k : K (.bl (decide (j < i))) st) : xGt (.int i) (.int j) st K := by unfold xGt; exact ⟨trivial, k⟩
theorem st_ge (k : K (.bl (decide (j ≤ i))) st) : xGe (.int i) (.int j) st K := by unfold xGe; exact ⟨trivial, k⟩
theorem st_ne (k : K (.bl (!decide (i = j))) st) : xNe (.int i) (.int j) st K := by unfold xNe; exact k
theorem st_isN (h : live st d = true) (k : K (.bl (isN d)) st) : xIs d .non st K := by unfold xIs; exact ⟨h, k⟩
theorem st_eq (h1 : pl 40 d = true) (h2 : pl 40 e = true) (k : K (.bl (eqD d e)) st) : xEq d e st K := by unfold xEq; exact ⟨h1, h2, k⟩
theorem beq_dec (a b : Int) : (a == b) = decide (a = b) := by
  by_cases h : a = b
  · subst h; simp
  · simp [h]
theorem st_eqI (k : K (.bl (decide (i = j))) st) : xEq (.int i) (.int j) st K := by
  refine st_eq rfl rfl ?_
  have : eqD (.int i) (.int j) = decide (i = j) := by unfold eqD; exact beq_dec i j
  rw [this]; exact k
theorem st_neg (k : K (.int (-i)) st) : xNeg (.int i) st K := by unfold xNeg; exact k
theorem ix_items (h : items? st d = some xs) (a : atI xs i = some e) (k : K e st) : dIxR d (.int i) st K := by
  cases d <;> unfold items? at h <;> first
    | (cases h; done)
    | (cases h; simp only [dIxR, a]; exact k)
    | (simp only at h
       split at h
       · rename_i q
         cases h
         simp only [dIxR, q, a]
         exact k
       · cases h)
theorem st_ix (h : items? st d = some xs) (a : atI xs i = some e) (k : K e st) : xIx d (.int i) st K := by unfold xIx; exact ix_items h a k
theorem st_len (h : items? st d = some xs) (k : K (.int xs.length) st) : xLen [d] st K := by
  unfold xLen dLenR
  split
  · rename_i z; cases z; cases h
  · rename_i z; cases z; rw [h]; exact k
  · rename_i z1 z2; exact absurd rfl (z2 d)
theorem abs_nat (i : Int) : (if i < 0 then -i else i) = ((i.natAbs : Nat) : Int) := by split <;> omega
theorem st_abs (k : K (.int ((i.natAbs : Nat) : Int)) st) : xAbs [.int i] st K := by unfold xAbs; show K (.int (if i < 0 then -i else i)) st; rw [abs_nat]; exact k
theorem st_max (k : K (.int (if j > i then j else i)) st) : xMax [.int i, .int j] st K := by unfold xMax; exact k
theorem st_min (k : K (.int (if j < i then j else i)) st) : xMin [.int i, .int j] st K := by unfold xMin; exact k
theorem st_intB (k : K (.int (if b then 1 else 0)) st) : xInt [.bl b] st K := by unfold xInt; exact k
theorem st_tuple (h : items? st d = some xs) (k : K (.tup xs) st) : xTuple [d] st K := by unfold xTuple dTupleR; simp only [h]; exact k
theorem st_list (h : items? st d = some xs) (k : K (.lst xs) st) : xList [d] st K := by unfold xList dListR; simp only [h]; exact k
theorem st_all {bs : List Bool} (h : bools? xs = some bs) (k : K (.bl (bs.all id)) st) : xAll [.lst xs] st K := by unfold xAll dAllR; simp only [h]; exact k
theorem st_isi {t c : String} (h : tyOf? st d = some t) (hc : c ∈ clNames) (k : K (.bl (isTy t c)) st) : xIsi [d, .ty c] st K := by unfold xIsi dIsiR; simp only [h]; exact ⟨hc, k⟩
theorem st_isi2 {t : String} {cs : List D} {cl : List String} (h : tyOf? st d = some t) (h2 : tyList? cs = some cl) (hc : ∀ c ∈ cl, c ∈ clNames) (k : K (.bl (cl.any (isTy t))) st) : xIsi [d, .tup cs] st K := by unfold xIsi dIsiR; simp only [h, h2]; exact ⟨hc, k⟩
theorem st_seq {K : List D → (Store → Prop) → Store → Prop} (h : items? st d = some xs) (k : ∀ ok : Store → Prop, ok st → K xs ok st) : xSeq d st K := by
  unfold xSeq seqR
  cases d <;> unfold items? at h <;> first
    | (cases h; done)
    | (cases h; exact k _ trivial)
    | (simp only at h
       split at h
       · rename_i q
         cases h
         simp only [q]
         exact k _ q
       · cases h)
theorem st_seqL {K : List D → (Store → Prop) → Store → Prop} (k : K xs (fun _ => True) st) : xSeq (.lst xs) st K := by unfold xSeq; exact k
theorem st_seqT {K : List D → (Store → Prop) → Store → Prop} (k : K xs (fun _ => True) st) : xSeq (.tup xs) st K := by unfold xSeq; exact k
theorem st_rng1 {K : List D → (Store → Prop) → Store → Prop} (h : -(2 ^ 62) ≤ j ∧ j < 2 ^ 62) (k : K (rangeD 0 j.toNat) (fun _ => True) st) : xRng1 [.int j] st K := by unfold xRng1; exact ⟨h, k⟩
theorem st_rng2 {K : List D → (Store → Prop) → Store → Prop} (h : -(2 ^ 62) ≤ i ∧ i < 2 ^ 62 ∧ -(2 ^ 62) ≤ j ∧ j < 2 ^ 62) (k : K (rangeD i (j - i).toNat) (fun _ => True) st) : xRng2 [.int i, .int j] st K := by unfold xRng2; exact ⟨h, k⟩
theorem st_set {K : Store → Prop} {m : Nat} (h : st[n]? = some (.lst xs)) (e : ixN xs.length i = some m) (k : K (st.set n (.lst (xs.set m d)))) : xSet (.ref n) (.int i) d st K := by unfold xSet setR; simp only [h, e]; exact k
end
end L3
namespace L3
open PySem L2
open PySem.Spec hiding items?
open PyProof.Rows hiding St
def noList (K : PySem.W.Frag) : Bool := K.all fun p => p.2.cls != .type "list"
def S_lawG : DSp := fun ds st K => ∃ ns : List Int, ds = [.lst (ns.map .int)] ∧ ns.length ≤ 63 ∧ ∀ st', K (.bl true) st'
def lawSp (K : PySem.W.Frag) : Sp := fun vs H Q _ => ∃ (a : Addr) (ns : List Int), vs = [.ref a] ∧ SqL K H a (ns.map V.int) ∧ ns.length ≤ 63 ∧ ∀ H', Q (.bl true) H'
theorem mem_lookupA {a : Addr} {o : Obj} : ∀ {l : List (Addr × Obj)}, l.lookup a = some o → (a, o) ∈ l
  | [], h => by cases h
  | (b, u) :: r, h => by
    rw [List.lookup_cons] at h
    split at h
    · rename_i z
      cases h
      have : a = b := by simpa using z
      subst this
      exact List.mem_cons_self
    · exact List.mem_cons_of_mem _ (mem_lookupA h)
theorem noList_lookup {K : PySem.W.Frag} (h : noList K = true) {a : Addr} {o : Obj} (e : K.lookup a = some o) : o.cls ≠ .type "list" := by
  have := List.all_eq_true.mp h (a, o) (mem_lookupA e)
  simpa using this
theorem reps_ints {α : List (Option Addr)} {G : Hp} : ∀ ns : List Int, Reps α G (ns.map D.int) (ns.map V.int)
  | [] => by unfold Reps; rfl
  | n :: ns => by
    rw [List.map_cons, List.map_cons]
    unfold Reps
    exact ⟨_, _, rfl, by unfold Rep; rfl, reps_ints ns⟩
theorem lawSp_of {K : PySem.W.Frag} (nl : noList K = true) {vs : List V} {H : Hp} {Q : VK} {E : XK} (h : lawSp K vs H Q E) : LSp S_lawG vs H Q E := by
  obtain ⟨a, ns, rfl, hS, hl, q⟩ := h
  rcases hS with hS | ⟨o, its, n, e, hc, _⟩
  · refine ⟨[], [.lst (ns.map .int)], [], fun d _ => d = .bl true, H, fun _ => none, ⟨fun b => by cases H b <;> rfl, fun _ _ _ => rfl⟩, ?_, ⟨rfl, fun _ _ _ e => by simp at e, fun n c e => by simp at e⟩, ⟨ns, rfl, hl, fun _ => rfl⟩, ?_⟩
    · unfold Reps
      refine ⟨.ref a, [], rfl, ?_, by unfold Reps; rfl⟩
      unfold Rep
      exact ⟨a, ns.map V.int, rfl, by simp, hS, reps_ints ns⟩
    · rintro d st' rfl α' G' H' v _ _ _ r
      unfold Rep at r
      subst r
      exact q H'
  · exact absurd hc (noList_lookup nl e)
end L3
namespace L3
open PySem L2
open PySem.Spec hiding items?
open PyProof.Rows hiding St
def notStar : Expr → Bool
  | .Starred .. => false
  | _ => true
theorem star_cons {e : Expr} {es : List Expr} {env : Env} (h : notStar e = true) : starEach (e :: es) env = (false, eval e env) :: starEach es env := by
  cases e <;> first | rfl | cases h
def noStars : List Expr → Bool
  | [] => true
  | e :: es => notStar e && noStars es
theorem back_any {pos : Pos} {env : Env} : ∀ {es : List Expr}, noStars es = true → (backTo pos (starEach es env)).any (·.1) = false
  | [], _ => rfl
  | e :: es, h => by
    unfold noStars at h
    rw [Bool.and_eq_true] at h
    rw [star_cons h.1]
    have ih := back_any (pos := pos) (env := env) h.2
    unfold backTo at ih ⊢
    rw [List.map_cons, List.any_cons, ih]
    rfl
def notSlice : Expr → Bool
  | .Slice .. => false
  | _ => true
def plainTest : Expr → Bool
  | .Name .. => true
  | .Call .. => true
  | .Subscript .. => true
  | .Attribute .. => true
  | _ => false
def notComp : Expr → Bool
  | .ListComp .. => false
  | .SetComp .. => false
  | .DictComp .. => false
  | _ => true
section
variable {X : Cx}
theorem plain_ix {b : Expr} (h : notSlice b = true) : PlainIx b := by
  intro o i
  cases b <;> first | rfl | cases h
theorem plain_test {e : Expr} (h : plainTest e = true) : ∀ whole, isTrue e X.env whole = (do let v ← whole; standAt e.pos; holding [v] (truthy v)) := by
  intro whole
  cases e <;> first | (cases h; done) | rfl
theorem no_swap {e : Expr} {tg : Option Expr} {n : Nat} {env : Env} (h : notComp e = true) : swapsWith e tg n env = pure false := by
  cases e <;> first | (cases h; done) | rfl
theorem da_cons' {e : Expr} {es : List Expr} {te : DE} {tr : DA} (ha : PE X e (LE te)) (hr : PA X es (LA tr)) (hs : notStar e = true := by rfl) : PA X (e :: es) (LA (dCons te tr)) := da_cons ha hr (star_cons hs)
theorem d_cb' {e : Expr} {es : List Expr} {pos p : Pos} {x : Str} {id : String} {r : DRA} {t : DA} (hc : CallR X (.builtin id) (LRA r)) (ha : PA X (e :: es) (LA t)) (hm : X.mg x = none) (hv : bootBuiltins x = some (.builtin id)) (hn : x ≠ "__name__") (hdb : (x == ("__debug__" : Str)) = false) (hg : Gl X x := by rfl) (hs : notStar e = true := by rfl) (hs2 : noStars es = true := by rfl) :
    PE X (.Call (.Name x p) (e :: es) [] pos) (LE (dCB r t)) := d_cb hc ha hm hv hg hn hdb (star_cons hs) (back_any hs2)
theorem d_ct' {e : Expr} {es : List Expr} {pos p : Pos} {x : Str} {T : String} {r : DRA} {t : DA} (hc : CallR X (.type T) (LRA r)) (ha : PA X (e :: es) (LA t)) (hm : X.mg x = none) (hv : bootBuiltins x = some (.type T)) (hn : x ≠ "__name__") (hdb : (x == ("__debug__" : Str)) = false) (hg : Gl X x := by rfl) (hs : notStar e = true := by rfl) (hs2 : noStars es = true := by rfl) :
    PE X (.Call (.Name x p) (e :: es) [] pos) (LE (dCB r t)) := d_ct hc ha hm hv hg hn hdb (star_cons hs) (back_any hs2)
theorem d_fn' {e : Expr} {es : List Expr} {pos p : Pos} {x qual : Str} {st : Stmt} {ps : List Str} {f : Addr} {fd : FuncData} {k : Nat} {S : DSp} {t : DA} (A : DefAt X.K X.mg x qual st ps f fd) (F : FnOk X.prog X.w X.K X.mg X.base CX0 k f fd ps (LSp S)) (hr : Room k X.A)
    (ha : PA X (e :: es) (LA t)) (hdb : (x == ("__debug__" : Str)) = false) (hg : Gl X x := by rfl) (hs : notStar e = true := by rfl) (hs2 : noStars es = true := by rfl) :
    PE X (.Call (.Name x p) (e :: es) [] pos) (LE (dCall S t)) := d_fn A F hr ha hg hdb (star_cons hs) (back_any hs2)
theorem x_ix' {a b : Expr} {ta tb : DE} {pos : Pos} (ha : PE X a (LE ta)) (hb : PE X b (LE tb)) (hs : notSlice b = true := by rfl) : PE X (.Subscript a b pos) (LE (dOp xIx ta tb)) := x_ix ha hb (plain_ix hs)
theorem d_tval' {e : Expr} {te : DE} (he : PE X e (LE te)) (h : plainTest e = true := by rfl) : PT X e (LT (dTest te)) := d_tval he (plain_test h)
theorem ps_set' {i : Nat} {x : Str} {e : Expr} {te : TE} {pos pos' : Pos} (hN : X.N.Nodup) (hi : X.N[i]? = some x) (hx : Loc X.env.scope x) (he : PE X e te) (hf : X.fn x = true ∨ X.env.scope.names.lookup x = some .local := by first | exact .inl rfl | exact .inr rfl) (h : notComp e = true := by rfl) :
    PS X (.Assign [.Name x pos'] e pos) (tAsg te (gName i)) := ps_set hN hi hx he (no_swap h) hf
theorem d_name' {i : Nat} {x : Str} {pos : Pos} (hd : (x == ("__debug__" : Str)) = false) (hcd : (x == ("__classdict__" : Str)) = false) (hv : Vis X.env.scope x) (hN : X.N[i]? = some x := by rfl) : PE X (.Name x pos) (LE (dVar i)) := d_var (pe_var hN hv hd hcd)
theorem ps_sub {o i e : Expr} {to ti te : TE} {pos pos' : Pos} (he : PE X e te) (ho : PE X o to) (hi : PE X i ti) (h1 : notComp e = true := by rfl) (h2 : notSlice i = true := by rfl) : PS X (.Assign [.Subscript o i pos'] e pos) (tAsg te (gSub to ti rSetL)) :=
  ps_asg he (pg_sub ho hi set_list (by intro v; cases i <;> first | rfl | cases h2)) (by unfold swapsWithSole; exact no_swap h1) (by cases e <;> rfl) rfl
end
end L3
namespace L3
open PySem L2
open PySem.Spec hiding items?
open PyProof.Rows hiding St
@[irreducible] def JE (X : Cx) (e : Expr) (t : DE) : Prop := PE X e (LE t)
@[irreducible] def JT (X : Cx) (e : Expr) (t : DT) : Prop := PT X e (LT t)
@[irreducible] def JW (X : Cx) (e : Expr) (t : DT) : Prop := PW X e (LT t)
@[irreducible] def JA (X : Cx) (es : List Expr) (t : DA) : Prop := PA X es (LA t)
@[irreducible] def JS (X : Cx) (s : Stmt) (t : DS) : Prop := PS X s (LS t)
@[irreducible] def JB (X : Cx) (s : List Stmt) (t : DS) : Prop := PSs X s (LS t)
@[irreducible] def JG (X : Cx) (e : Expr) (t : DTg) : Prop := PG X e (LG t)
@[irreducible] def JI (X : Cx) (tg e : Expr) (t : DI) : Prop := PI X tg e (LI t)
@[irreducible] def JC (X : Cx) (es : List Expr) (t : DT) : Prop := PTs X es (LT t)
section
variable {X : Cx} {a b c e o i : Expr} {es : List Expr} {ta tb tc te to ti : DE} {t u : DT} {ar : DA} {pos p pos' : Pos} {s : Stmt} {ss : List Stmt} {T U : DS}
theorem j_name {n : Nat} {x : Str} (hd : (x == ("__debug__" : Str)) = false) (hcd : (x == ("__classdict__" : Str)) = false) (hv : Vis X.env.scope x) (hN : X.N[n]? = some x := by rfl) : JE X (.Name x pos) (dVar n) := by unfold JE; exact d_name' hd hcd hv hN
theorem j_nameC {n : Nat} {x : Str} (hd : (x == ("__debug__" : Str)) = false) (hcd : (x == ("__classdict__" : Str)) = false) (hN : X.N[n]? = some x := by rfl) (hv : Vis X.env.scope x := by first | exact Or.inl rfl | exact Or.inr (Or.inl rfl) | exact Or.inr (Or.inr rfl)) : JE X (.Name x pos) (dVar n) := by unfold JE; exact d_name' hd hcd hv hN
theorem j_ty {x : Str} {T : String} (hm : X.mg x = none) (hv : bootBuiltins x = some (.type T)) (hn : x ≠ "__name__") (hdb : (x == ("__debug__" : Str)) = false) (hg : Gl X x) : JE X (.Name x pos) (dC (.ty T)) := by unfold JE; exact d_ty hm hv hg hn hdb
theorem j_int {k : Int} {j : Nat} : JE X (.Constant (.int k) j pos) (dC (.int k)) := by unfold JE; exact d_int
theorem j_bl {k : Bool} {j : Nat} : JE X (.Constant (.bool k) j pos) (dC (.bl k)) := by unfold JE; exact d_bl
theorem j_non {j : Nat} : JE X (.Constant .none j pos) (dC .non) := by unfold JE; exact d_non
theorem j_op {op : Operator} {r : DR2} (ho : OpR X (binaryOp op) (LR r)) (ha : JE X a ta) (hb : JE X b tb) : JE X (.BinOp a op b pos) (dOp r ta tb) := by unfold JE at *; exact d_op ho ha hb
theorem j_neg (ha : JE X a ta) : JE X (.UnaryOp .USub a pos) (dUn xNeg ta) := by unfold JE at *; exact d_un x_neg ha
theorem j_not (ha : JE X a ta) : JE X (.UnaryOp .Not a pos) (dNotV (dTest ta)) := by unfold JE at *; exact d_not ha
theorem j_one {op : BoolOp} (ha : JE X a ta) : JE X (.BoolOp op [a] pos) ta := by unfold JE at *; exact d_one ha
theorem j_and (ha : JE X a ta) (hb : JE X (.BoolOp .And (b :: es) pos) tb) : JE X (.BoolOp .And (a :: b :: es) pos) (dAndV ta tb) := by unfold JE at *; exact d_and ha hb
theorem j_or (ha : JE X a ta) (hb : JE X (.BoolOp .Or (b :: es) pos) tb) : JE X (.BoolOp .Or (a :: b :: es) pos) (dOrV ta tb) := by unfold JE at *; exact d_or ha hb
theorem j_cmp {op : CmpOp} {r : DR2} (ho : OpR X (compareOp op) (LR r)) (hm : behindInMarks op b = false) (ha : JE X a ta) (hb : JE X b tb) : JE X (.Compare a [op] [b] pos) (dOp r ta tb) := by unfold JE at *; exact d_cmp ho ha hb hm
theorem j_ifE (hc : JT X c t) (ha : JE X a ta) (hb : JE X b tb) : JE X (.IfExp c a b pos) (dIf t ta tb) := by unfold JE at *; unfold JT at hc; exact d_ifE hc ha hb
theorem j_tup {n : Nat} (h : JA X es ar) : JE X (.Tuple es n pos) (dTup ar) := by unfold JE; unfold JA at h; exact d_tup h
theorem j_lst (h : JA X es ar) : JE X (.List es pos) (dLst ar) := by unfold JE; unfold JA at h; exact d_lst h
theorem j_new (h : JA X es ar) : JE X (.List es pos) (dNew ar) := by unfold JE; unfold JA at h; exact d_new h
theorem j_nil : JA X [] dNil := by unfold JA; exact da_nil
theorem j_cons (ha : JE X e te) (hr : JA X es ar) (hs : notStar e = true := by rfl) : JA X (e :: es) (dCons te ar) := by unfold JA at *; unfold JE at ha; exact da_cons' ha hr hs
theorem j_ix (ha : JE X a ta) (hb : JE X b tb) (hs : notSlice b = true := by rfl) : JE X (.Subscript a b pos) (dOp xIx ta tb) := by unfold JE at *; exact x_ix' ha hb hs
theorem j_cb {x : Str} {id : String} {r : DRA} (hc : CallR X (.builtin id) (LRA r)) (ha : JA X (e :: es) ar) (hm : X.mg x = none) (hv : bootBuiltins x = some (.builtin id)) (hn : x ≠ "__name__") (hdb : (x == ("__debug__" : Str)) = false) (hg : Gl X x) (hs : notStar e = true := by rfl) (hs2 : noStars es = true := by rfl) : JE X (.Call (.Name x p) (e :: es) [] pos) (dCB r ar) := by
  unfold JE; unfold JA at ha; exact d_cb' hc ha hm hv hn hdb hg hs hs2
theorem j_ct {x : Str} {T : String} {r : DRA} (hc : CallR X (.type T) (LRA r)) (ha : JA X (e :: es) ar) (hm : X.mg x = none) (hv : bootBuiltins x = some (.type T)) (hn : x ≠ "__name__") (hdb : (x == ("__debug__" : Str)) = false) (hg : Gl X x) (hs : notStar e = true := by rfl) (hs2 : noStars es = true := by rfl) : JE X (.Call (.Name x p) (e :: es) [] pos) (dCB r ar) := by
  unfold JE; unfold JA at ha; exact d_ct' hc ha hm hv hn hdb hg hs hs2
theorem j_fn {x qual : Str} {st : Stmt} {ps : List Str} {f : Addr} {fd : FuncData} {k : Nat} {S : DSp} (A : DefAt X.K X.mg x qual st ps f fd) (F : FnOk X.prog X.w X.K X.mg X.base CX0 k f fd ps (LSp S)) (hr : Room k X.A) (ha : JA X (e :: es) ar) (hdb : (x == ("__debug__" : Str)) = false) (hg : Gl X x) (hs : notStar e = true := by rfl) (hs2 : noStars es = true := by rfl) :
    JE X (.Call (.Name x p) (e :: es) [] pos) (dCall S ar) := by unfold JE; unfold JA at ha; exact d_fn' A F hr ha hdb hg hs hs2
theorem j_tcmp {op : CmpOp} {r : DR2} (ho : OpR X (compareOp op) (LR r)) (hm : behindInMarks op b = false) (ha : JE X a ta) (hb : JE X b tb) : JT X (.Compare a [op] [b] pos) (dTest (dOp r ta tb)) := by unfold JE at *; unfold JT; exact d_tcmp ho ha hb hm
theorem j_tnot (ha : JT X a t) : JT X (.UnaryOp .Not a pos) (dNotT t) := by unfold JT at *; exact d_tnot ha
theorem j_tval (he : JE X e te) (h : plainTest e = true := by rfl) : JT X e (dTest te) := by unfold JT; unfold JE at he; exact d_tval' he h
theorem j_wand1 (ha : JT X a t) : JW X (.BoolOp .And [a] pos) t := by unfold JW; unfold JT at ha; exact d_wand1 ha
theorem j_wor1 (ha : JT X a t) : JW X (.BoolOp .Or [a] pos) t := by unfold JW; unfold JT at ha; exact d_wor1 ha
theorem j_wand (ha : JT X a t) (hb : JW X (.BoolOp .And (b :: es) pos) u) : JW X (.BoolOp .And (a :: b :: es) pos) (dAndT t u) := by unfold JW at *; unfold JT at ha; exact d_wand ha hb
theorem j_wor (ha : JT X a t) (hb : JW X (.BoolOp .Or (b :: es) pos) u) : JW X (.BoolOp .Or (a :: b :: es) pos) (dOrT t u) := by unfold JW at *; unfold JT at ha; exact d_wor ha hb
theorem j_wpt (h : JW X e t) : JT X e t := by unfold JT; unfold JW at h; exact PW.pt h
theorem j_seq {l tg : Expr} (hl : JE X l ta) : JI X tg l (xSeqI ta) := by unfold JI; unfold JE at hl; exact xi_seq hl
theorem j_range1 {tg : Expr} (hg : Gl X "range") (hm : X.mg "range" = none) (ha : JA X [a] ar) (hs : notStar a = true := by rfl) : JI X tg (.Call (.Name "range" p) [a] [] pos) (xRange1 ar) := by unfold JI; unfold JA at ha; exact xi_range1 (pi_range1 hg hm ha (star_cons hs))
theorem j_range2 {tg : Expr} (hg : Gl X "range") (hm : X.mg "range" = none) (ha : JA X [a, b] ar) (hs : notStar a = true := by rfl) (hs2 : notStar b = true := by rfl) : JI X tg (.Call (.Name "range" p) [a, b] [] pos) (xRange2 ar) := by unfold JI; unfold JA at ha; exact xi_range2 (pi_range2 hg hm ha (by rw [star_cons hs, star_cons hs2]; rfl) (star_cons hs2))
theorem j_tg {k : Nat} {x : Str} (hN : X.N.Nodup) (hx : Loc X.env.scope x) (hf : X.fn x = true ∨ X.env.scope.names.lookup x = some .local) (hi : X.N[k]? = some x := by rfl) : JG X (.Name x pos) (tgName k) := by unfold JG; exact dg_name (pg_name hN hi hx hf)
theorem j_tg2 {k j n : Nat} {x y : Str} {px py : Pos} (hc : X.calm = true) (hN : X.N.Nodup) (hx : Loc X.env.scope x) (hf : X.fn x = true ∨ X.env.scope.names.lookup x = some .local) (hy : Loc X.env.scope y) (hg : X.fn y = true ∨ X.env.scope.names.lookup y = some .local) (hi : X.N[k]? = some x := by rfl) (hj : X.N[j]? = some y := by rfl) :
    JG X (.Tuple [.Name x px, .Name y py] n pos) (tgTwo k j) := by unfold JG; exact dg_two (pg_tup hc (pgs_cons (pg_name hN hi hx hf) (pgs_cons (pg_name hN hj hy hg) pgs_nil)))
theorem j_ctrue : JC X [] dTrue := by unfold JC; exact pts_true
theorem j_comp {scope : Scope} {Nc : List Str} {elt tg iter : Expr} {ifs : List Expr} {src : DI} {fr : List (Option Nat)} {dtg : DTg} (S : CompSc X scope Nc fr) (hi : JI X tg iter src) (hg : ∀ C s H ex, JG (cxC X scope Nc C s H ex) tg dtg) (ht : ∀ C s H ex, JC (cxC X scope Nc C s H ex) ifs t) (he : ∀ C s H ex, JE (cxC X scope Nc C s H ex) elt te) (fit : Fit fr dtg)
    (hx : X.xe = fun _ _ => False := by rfl) (hc : X.calm = true := by rfl) (hs : ∀ x, foldedSetIterable iter X.env x = pure x := by intro _; rfl) : JE X (.ListComp elt [⟨tg, iter, ifs, 0⟩] scope pos) (dComp src fr dtg t te) := by
  unfold JE JI JG JC at *; exact d_comp S hi hg ht he fit hx hc hs
theorem j_compN {scope : Scope} {Nc : List Str} {elt tg iter : Expr} {ifs : List Expr} {src : DI} {fr : List (Option Nat)} {dtg : DTg} (S : CompSc X scope Nc fr) (hi : JI X tg iter src) (hg : ∀ C s H ex, JG (cxC X scope Nc C s H ex) tg dtg) (ht : ∀ C s H ex, JC (cxC X scope Nc C s H ex) ifs t) (he : ∀ C s H ex, JE (cxC X scope Nc C s H ex) elt te) (fit : Fit fr dtg)
    (hx : X.xe = fun _ _ => False := by rfl) (hc : X.calm = true := by rfl) (hs : ∀ x, foldedSetIterable iter X.env x = pure x := by intro _; rfl) : JE X (.ListComp elt [⟨tg, iter, ifs, 0⟩] scope pos) (dCompN src fr dtg t te) := by
  unfold JE JI JG JC at *; exact d_compN S hi hg ht he fit hx hc hs
theorem jb_nil : JB X [] dNext := by unfold JB; exact dss_nil
theorem jb_one (h : JS X s T) : JB X [s] T := by unfold JB; unfold JS at h; exact dss_one h
theorem jb_cons (h : JS X s T) (h2 : JB X ss U) : JB X (s :: ss) (dSeq T U) := by unfold JB at *; unfold JS at h; exact dss_cons h h2
theorem js_ret (h : JE X e te) : JS X (.Return (some e) pos) (dRet te) := by unfold JS; unfold JE at h; exact ds_ret h
theorem js_if {x y : List Stmt} (hc : JT X c t) (ha : JB X x T) (hb : JB X y U) : JS X (.If c x y pos) (dIfS t T U) := by unfold JS; unfold JB at *; unfold JT at hc; exact ds_if hc ha hb
theorem js_while {x : List Stmt} (hc : JT X c t) (hb : JB X x T) (hx : X.xe = fun _ _ => False := by rfl) : JS X (.While c x [] pos) (dWhile t T) := by unfold JS; unfold JB at hb; unfold JT at hc; exact ds_while (ps_while (by rw [hx]; exact PassesOwn.never) hc hb)
theorem js_for {tg iter : Expr} {x : List Stmt} {src : DI} {dtg : DTg} (hi : JI X tg iter src) (hg : JG X tg dtg) (hb : JB X x T) (hx : X.xe = fun _ _ => False := by rfl) (hc : X.calm = true := by rfl) (hs : ∀ x, foldedSetIterable iter X.env x = pure x := by intro _; rfl) : JS X (.For tg iter x [] pos) (dFor src dtg T) := by
  unfold JS; unfold JI at hi; unfold JG at hg; unfold JB at hb; exact ds_for (ps_for (by rw [hx]; exact PassesOwn.never) hc hi hg hb hs)
theorem js_set {k : Nat} {x : Str} (hN : X.N.Nodup) (hx : Loc X.env.scope x) (he : JE X e te) (hf : X.fn x = true ∨ X.env.scope.names.lookup x = some .local := by first | exact .inl rfl | exact .inr rfl) (h : notComp e = true := by rfl) (hi : X.N[k]? = some x := by rfl) : JS X (.Assign [.Name x pos'] e pos) (dSet k te) := by
  unfold JS; unfold JE at he; exact ds_set (ps_set' hN hi hx he hf h)
theorem js_setC {scope : Scope} {Nc : List Str} {elt tg iter : Expr} {ifs : List Expr} {src : DI} {fr : List (Option Nat)} {dtg : DTg} {k : Nat} {x : Str} (hN : X.N.Nodup) (hl : Loc X.env.scope x) (S : CompSc X scope Nc fr) (hi : JI X tg iter src) (hg : ∀ C s H ex, JG (cxC X scope Nc C s H ex) tg dtg) (ht : ∀ C s H ex, JC (cxC X scope Nc C s H ex) ifs t) (he : ∀ C s H ex, JE (cxC X scope Nc C s H ex) elt te) (fit : Fit fr dtg)
    (hf : X.fn x = true ∨ X.env.scope.names.lookup x = some .local := by first | exact .inl rfl | exact .inr rfl) (hsw : swapsWith (.ListComp elt [⟨tg, iter, ifs, 0⟩] scope p) (some (.Name x pos')) pos.line X.env = pure true := by rfl) (hni : X.N[k]? = some x := by rfl) (hx : X.xe = fun _ _ => False := by rfl) (hc : X.calm = true := by rfl) (hs : ∀ x, foldedSetIterable iter X.env x = pure x := by intro _; rfl) :
    JS X (.Assign [.Name x pos'] (.ListComp elt [⟨tg, iter, ifs, 0⟩] scope p) pos) (dSet k (dComp src fr dtg t te)) := by
  unfold JS; unfold JE JI JG JC at *; exact ds_setC fit (ps_setC hx hc S hi hg ht he hN hni hl hf hsw hs)
theorem js_setCN {scope : Scope} {Nc : List Str} {elt tg iter : Expr} {ifs : List Expr} {src : DI} {fr : List (Option Nat)} {dtg : DTg} {k : Nat} {x : Str} (hN : X.N.Nodup) (hl : Loc X.env.scope x) (S : CompSc X scope Nc fr) (hi : JI X tg iter src) (hg : ∀ C s H ex, JG (cxC X scope Nc C s H ex) tg dtg) (ht : ∀ C s H ex, JC (cxC X scope Nc C s H ex) ifs t) (he : ∀ C s H ex, JE (cxC X scope Nc C s H ex) elt te) (fit : Fit fr dtg)
    (hf : X.fn x = true ∨ X.env.scope.names.lookup x = some .local := by first | exact .inl rfl | exact .inr rfl) (hsw : swapsWith (.ListComp elt [⟨tg, iter, ifs, 0⟩] scope p) (some (.Name x pos')) pos.line X.env = pure true := by rfl) (hni : X.N[k]? = some x := by rfl) (hx : X.xe = fun _ _ => False := by rfl) (hc : X.calm = true := by rfl) (hs : ∀ x, foldedSetIterable iter X.env x = pure x := by intro _; rfl) :
    JS X (.Assign [.Name x pos'] (.ListComp elt [⟨tg, iter, ifs, 0⟩] scope p) pos) (dSet k (dCompN src fr dtg t te)) := by
  unfold JS; unfold JE JI JG JC at *; exact ds_setCN fit (ps_setC hx hc S hi hg ht he hN hni hl hf hsw hs)
theorem js_setIx (he : JE X e te) (ho : JE X o to) (hi : JE X i ti) (h1 : notComp e = true := by rfl) (h2 : notSlice i = true := by rfl) : JS X (.Assign [.Subscript o i pos'] e pos) (xSetIx to ti te) := by unfold JS; unfold JE at *; exact xs_setIx (ps_sub he ho hi h1 h2)
theorem js_par {k j kt k2 : Nat} {x y : Str} {px py pt pt2 : Pos} (hN : X.N.Nodup) (hij : k ≠ j) (hx : X.env.scope.names.lookup x = some .local) (hy : X.env.scope.names.lookup y = some .local) (ha : JA X [a, b] ar)
    (hw : swappedStores [.Tuple [.Name x px, .Name y py] kt pt] (.Tuple [a, b] k2 pt2) X.env = pure (some [x, y]) := by rfl) (hc : X.calm = true := by rfl) (hi : X.N[k]? = some x := by rfl) (hj : X.N[j]? = some y := by rfl) (hs : swapsWithSole [.Tuple [.Name x px, .Name y py] kt pt] (.Tuple [a, b] k2 pt2) pos.line X.env = pure false := by rfl) :
    JS X (.Assign [.Tuple [.Name x px, .Name y py] kt pt] (.Tuple [a, b] k2 pt2) pos) (dPar k j ar) := by unfold JS; unfold JA at ha; exact ds_par (ps_par hc hN hi hj hij hx hy ha hw hs)
theorem js_asg {tg : Expr} {dtg : DTg} (he : JE X e te) (hg : JG X tg dtg) (hs : swapsWithSole [tg] e pos.line X.env = pure false := by rfl) (hw : swappedStores [tg] e X.env = pure none := by rfl) (h1 : (assignEach [tg] X.env).map (·.2) = [assign tg X.env] := by rfl) : JS X (.Assign [tg] e pos) (dAsg dtg te) := by
  unfold JS; unfold JE at he; unfold JG at hg; exact ds_asg (ps_asg he hg hs hw h1)
end
theorem j_def {P : Program} {w : World} {K : PySem.W.Frag} {mg : Str → Option Value} {base : Heap} {x qual : Str} {st : Stmt} {f : Addr} {fd : FuncData} {N ps : List Str} {k : Nat} {sp : DSp} {t : DS} (F : Fun K x qual st f fd) (S : FnScope N ps (defScope st))
    (hbody : ∀ (cdv : Value) (A : Around) (outer : List Env) (s : Shared) (H : Hp) (E : XK), Room k (A.deeper (envOfC qual (defScope st) s.heap.objs.size f cdv)) → JB (cxOf CX0 P w K mg base N qual (defScope st) f cdv A outer s H E).nox (defBody st) t)
    (hsp : ∀ ds st K, sp ds st K → ds.length = ps.length ∧ t { nx := fun _ st' => K .non st', rt := K } (startD N ds) st) : FnOk P w K mg base CX0 (k + 1) f fd ps (LSp sp) := by
  unfold JB at hbody; exact d_def F S hbody hsp
end L3
namespace HT
open PySem PyProof.Rows
section
variable {prog : Program} {w : World} {A : Around} {E : Value → Shared → Prop} {s : Shared}
end
end HT
namespace L3
open PySem L2
open PySem.Spec hiding items?
open PyProof.Rows hiding St
section
variable {X : Cx}
theorem PO.imp {e : Option Expr} {t t' : TO} (h : PO X e t) (f : ∀ σ H Q, t' σ H Q → t σ H Q) : PO X e t' := fun pins s σ H Q I q => h pins s σ H Q I (f σ H Q q)
end
end L3
namespace L3
open PySem L2
open PySem.Spec hiding items?
open PyProof.Rows hiding St
section
variable {prog : Program} {w : World} {A : Around} {E : Value → Shared → Prop} {s : Shared}
theorem nextT_item {iT tp : Addr} {n : Nat} {its : Array Value} {v : Value} {Q : Value → Shared → Prop} (hI : s.heap.IsTupleIter iT tp n) (hT : s.heap.IsTuple tp its) (hv : its[n]? = some v)
    (q : ∀ g, g.IsTupleIter iT tp (n + 1) → Heap.SameBut iT s.heap g → Q v { s with heap := g }) : wpAny (model prog w) A (Builtin.SmallTypes.nextOf (.ref iT)) Q E s := by
  obtain ⟨oI, eI, cI, dI⟩ := id hI
  obtain ⟨oT, eT, _, nT, dT⟩ := hT
  unfold Builtin.SmallTypes.nextOf
  refine wpAny_bind (wpAny_callSpecial?_slot (name := Str.ofString "__next__") hI.typeIs F.slot_tuple_iterator_next (wpAny_call_entry F.slot_tuple_iterator_next hI.typeIs F.entry_tuple_iterator_next ?_ (F.args_tuple_iterator_next_1 _)))
  show wpAny _ _ (field (.ref iT) 0 >>= _) _ _ s
  refine wpAny_bind (wpAny_field eI dI (x := .ref tp) rfl ?_)
  show wpAny _ _ (if (Value.ref tp == Value.none) = true then _ else _) _ _ s
  rw [if_neg (show ¬ ((Value.ref tp == Value.none) = true) from Bool.false_ne_true)]
  show wpAny _ _ (field (.ref iT) 1 >>= _) _ _ s
  refine wpAny_bind (wpAny_field eI dI (x := .int n 0) rfl ?_)
  show wpAny _ _ (seqItems? (.ref tp) >>= _) _ _ s
  refine wpAny_bind (wpAny_seqItems eT dT ?_)
  simp only [Int.toNat_natCast, hv]
  refine wpAny_bind (wpAny_setField eI dI (by simp) (wpAny_pure ⟨v, rfl, wpAny_pure (q _ ?_ (Heap.SameBut.update ..))⟩))
  refine ⟨_, Heap.get?_update_self _ eI (Obj.isFreed_of_fields (Obj.data_mapFields dI _)), (Obj.cls_mapFields ..).trans cI, ?_⟩
  rw [Obj.data_mapFields dI]
  simp [rawInt]
theorem nextT_end {iT tp : Addr} {n : Nat} {its : Array Value} {Q : Value → Shared → Prop} (hh : A.handled = none) (hI : s.heap.IsTupleIter iT tp n) (hT : s.heap.IsTuple tp its) (hv : its[n]? = none)
    (q : ∀ g e, Heap.ExtBut iT s.heap g → (∃ o, g.get? e = some o ∧ o.cls = .type "StopIteration") → E (.ref e) { s with heap := g }) : wpAny (model prog w) A (Builtin.SmallTypes.nextOf (.ref iT)) Q E s := by
  obtain ⟨oI, eI, cI, dI⟩ := id hI
  obtain ⟨oT, eT, _, nT, dT⟩ := hT
  unfold Builtin.SmallTypes.nextOf
  refine wpAny_bind (wpAny_callSpecial?_slot (name := Str.ofString "__next__") hI.typeIs F.slot_tuple_iterator_next (wpAny_call_entry F.slot_tuple_iterator_next hI.typeIs F.entry_tuple_iterator_next ?_ (F.args_tuple_iterator_next_1 _)))
  show wpAny _ _ (field (.ref iT) 0 >>= _) _ _ s
  refine wpAny_bind (wpAny_field eI dI (x := .ref tp) rfl ?_)
  show wpAny _ _ (if (Value.ref tp == Value.none) = true then _ else _) _ _ s
  rw [if_neg (show ¬ ((Value.ref tp == Value.none) = true) from Bool.false_ne_true)]
  show wpAny _ _ (field (.ref iT) 1 >>= _) _ _ s
  refine wpAny_bind (wpAny_field eI dI (x := .int n 0) rfl ?_)
  show wpAny _ _ (seqItems? (.ref tp) >>= _) _ _ s
  refine wpAny_bind (wpAny_seqItems eT dT ?_)
  simp only [Int.toNat_natCast, hv]
  refine wpAny_bind (wpAny_rule (wpAny_bind (wpAny_setField eI dI (by simp) ?_)))
  show wpAny _ _ (newExc (.type "StopIteration") [] >>= _) _ _ _
  refine wpAny_bind ?_
  simp only [newExc, newTuple]
  refine wpAny_bind (wpAny_newObj_type ?_ (by size_fits))
  refine wpAny_bind (m := firstArgMember _ _) (wpAny_of_eq (a := Value.none) (by first | rfl | (simp only [firstArgMember]; rfl)) ?_)
  refine wpAny_newObj_type ?_ (by size_fits)
  simp only [raiseNew]
  refine wpAny_bind (wpAny_handled ?_)
  first | rw [show A.in1.handled = none from hh] | rw [hh]
  refine wpAny_bind (wpAny_pure (wpAny_throw ?_))
  exact q _ _ (((Heap.SameBut.update ..).extBut.push _).push _) ⟨_, Heap.get?_push_size _ rfl, rfl⟩
end
end L3
namespace L3
open PySem L2
open PySem.Spec hiding items?
open PyProof.Rows hiding St
section
variable {st : Store} {K : DK} {i j : Int} {b c : Bool} {xs ys : List D} {d e : D} {n : Nat}
theorem eqT (h : i = j) (k : K (.bl true) st) : xEq (.int i) (.int j) st K := st_eqI (by rw [decide_eq_true h]; exact k)
theorem eqF (h : i ≠ j) (k : K (.bl false) st) : xEq (.int i) (.int j) st K := st_eqI (by rw [decide_eq_false h]; exact k)
theorem eq2 (h1 : i = j → K (.bl true) st) (h2 : i ≠ j → K (.bl false) st) : xEq (.int i) (.int j) st K := by
  by_cases h : i = j
  · exact eqT h (h1 h)
  · exact eqF h (h2 h)
theorem neT (h : i ≠ j) (k : K (.bl true) st) : xNe (.int i) (.int j) st K := st_ne (by rw [decide_eq_false h]; exact k)
theorem neF (h : i = j) (k : K (.bl false) st) : xNe (.int i) (.int j) st K := st_ne (by rw [decide_eq_true h]; exact k)
theorem ne2 (h1 : i ≠ j → K (.bl true) st) (h2 : i = j → K (.bl false) st) : xNe (.int i) (.int j) st K := by
  by_cases h : i = j
  · exact neF h (h2 h)
  · exact neT h (h1 h)
theorem ltT (h : i < j) (k : K (.bl true) st) : xLt (.int i) (.int j) st K := st_lt (by rw [decide_eq_true h]; exact k)
theorem ltF (h : j ≤ i) (k : K (.bl false) st) : xLt (.int i) (.int j) st K := st_lt (by rw [decide_eq_false (by omega)]; exact k)
theorem lt2 (h1 : i < j → K (.bl true) st) (h2 : j ≤ i → K (.bl false) st) : xLt (.int i) (.int j) st K := by
  by_cases h : i < j
  · exact ltT h (h1 h)
  · exact ltF (by omega) (h2 (by omega))
theorem szL {P : Prop} (h : xs.length ≤ 1000) (k : P) : xs.length ≤ sizeLine ∧ P := ⟨by rw [sizeLine_eq]; omega, k⟩
theorem sz1000 {m : Nat} (h : m ≤ 1000) : m ≤ sizeLine := by rw [sizeLine_eq]; omega
theorem atI_get (h0 : 0 ≤ i) (e : xs[i.toNat]? = some d) : atI xs i = some d := by
  have := atI_nat e
  rw [Int.toNat_of_nonneg h0] at this
  exact this
theorem ixN_at {m : Nat} (h0 : 0 ≤ i) (h : i.toNat < m) : ixN m i = some i.toNat := by
  unfold ixN
  have : i < (m : Int) := by omega
  simp [h0, this]
end
theorem for_ind {tg : DTg} {body : DS} {ok : Store → Prop} {E : DEnds} (I : List D → DEnv → Store → Prop) (hend : ∀ σ st, I [] σ st → ok st ∧ E.nx σ st)
    (hstep : ∀ x xs σ st, I (x :: xs) σ st → (∀ σ' st', I xs σ' st' → forD tg body ok E xs σ' st') → ok st ∧ ∃ σ1, tg x σ = some σ1 ∧ body { E with nx := forD tg body ok E xs, ct := forD tg body ok E xs, bk := E.nx } σ1 st) :
    ∀ xs σ st, I xs σ st → forD tg body ok E xs σ st
  | [], σ, st, h => by unfold forD; exact hend σ st h
  | x :: xs, σ, st, h => by unfold forD; exact hstep x xs σ st h fun σ' st' h' => for_ind I hend hstep xs σ' st' h'
theorem comp_ind {tg : DTg} {c : DT} {te : DE} {ok : Store → Prop} {σc : DEnv} {K : List D → Store → Prop} (I : List D → List D → Store → Prop) (hend : ∀ acc st, I [] acc st → ok st ∧ K acc st)
    (hstep : ∀ x xs acc st, I (x :: xs) acc st → (∀ acc' st', I xs acc' st' → compD tg c te ok σc xs acc' st' K) → ok st ∧ ∃ σ2, tg x σc = some σ2 ∧ c σ2 st fun b st1 => if b = true then te σ2 st1 fun y st2 => compD tg c te ok σc xs (acc ++ [y]) st2 K else compD tg c te ok σc xs acc st1 K) :
    ∀ xs acc st, I xs acc st → compD tg c te ok σc xs acc st K
  | [], acc, st, h => by unfold compD; exact hend acc st h
  | x :: xs, acc, st, h => by unfold compD; exact hstep x xs acc st h fun acc' st' h' => comp_ind I hend hstep xs acc' st' h'
theorem comp_map {tg : DTg} {te : DE} {ok : Store → Prop} {σc : DEnv} {st : Store} {K : List D → Store → Prop} {g : D → D} (hok : ok st) (xs : List D) (hx : ∀ x ∈ xs, ∀ K', K' (g x) st → ∃ σ2, tg x σc = some σ2 ∧ te σ2 st K') (k : K (xs.map g) st) : compD tg dTrue te ok σc xs [] st K := by
  refine comp_ind (fun r acc st' => st' = st ∧ (∀ x ∈ r, x ∈ xs) ∧ acc ++ r.map g = xs.map g) (fun acc st' h => ?_) (fun x r acc st' h next => ?_) xs [] st ⟨rfl, fun _ h => h, rfl⟩
  · obtain ⟨rfl, _, e⟩ := h
    rw [List.map_nil, List.append_nil] at e
    rw [e]; exact ⟨hok, k⟩
  · obtain ⟨rfl, hm, e⟩ := h
    obtain ⟨σ2, e2, q⟩ := hx x (hm x List.mem_cons_self) (fun y st2 => compD tg dTrue te ok σc r (acc ++ [y]) st2 K) (next _ _ ⟨rfl, fun z hz => hm z (List.mem_cons_of_mem _ hz), by rw [← e]; simp⟩)
    exact ⟨hok, σ2, e2, q⟩
theorem seq_cut {A B : DS} {E : DEnds} {σ : DEnv} {st : Store} (J : DEnv → Store → Prop) (h : ∀ nx, (∀ σ' st', J σ' st' → nx σ' st') → A { E with nx := nx } σ st) (k : ∀ σ' st', J σ' st' → B E σ' st') : dSeq A B E σ st := h (B E) k
section
variable {X : Cx}
end
end L3
namespace L3
open PySem L2
open PySem.Spec hiding items?
open PyProof.Rows hiding St
structure Src (P : Program) (w : World) (t a : Addr) (J : Nat → Heap → Prop) (us : Array Value) : Prop where
  fr : ∀ n g k, J n g → (∀ b, b = t ∨ b = a → ∀ o, g.get? b = some o → k.get? b = some o) → J n k
  lv : ∀ n g, J n g → (∃ o, g.get? t = some o) ∧ ∃ o, g.get? a = some o
  nx : ∀ n (A : Around) (s : Shared) (Q : Value → Shared → Prop) (E : Value → Shared → Prop) v, J n s.heap → us[n]? = some v → (∀ k, J (n + 1) k → Heap.SameBut t s.heap k → Q v { s with heap := k }) → wpAny (model P w) A (Builtin.SmallTypes.nextOf (.ref t)) Q E s
  en : ∀ n (A : Around) (s : Shared) (Q : Value → Shared → Prop) (E : Value → Shared → Prop), A.handled = none → J n s.heap → us[n]? = none → (∀ k e, Heap.ExtBut t s.heap k → (∃ o, k.get? e = some o ∧ o.cls = .type "StopIteration") → E (.ref e) { s with heap := k }) → wpAny (model P w) A (Builtin.SmallTypes.nextOf (.ref t)) Q E s
section
variable {P : Program} {w : World}
theorem src_list (t a : Addr) (hne : a ≠ t) (us : Array Value) : Src P w t a (fun n g => g.IsListIter t a n ∧ g.IsList a us) us where
  fr := fun n g k j kp => ⟨j.1.at fun o e => kp t (.inl rfl) o e, j.2.at fun o e => kp a (.inr rfl) o e⟩
  lv := fun n g j => ⟨let ⟨o, e, _⟩ := j.1; ⟨o, e⟩, let ⟨o, e, _⟩ := j.2; ⟨o, e⟩⟩
  nx := fun n A s Q E v j hv q => wpAny_nextOf_list_item j.1 j.2 hv fun k jk sb => q k ⟨jk, j.2.extBut sb.extBut hne⟩ sb
  en := fun n A s Q E hh j hv q => wpAny_nextOf_list_end hh j.1 j.2 hv q
theorem src_tup (t a : Addr) (hne : a ≠ t) (us : Array Value) : Src P w t a (fun n g => g.IsTupleIter t a n ∧ g.IsTuple a us) us where
  fr := fun n g k j kp => by
    obtain ⟨⟨o, e, r⟩, ⟨o2, e2, r2⟩⟩ := j
    exact ⟨⟨o, kp t (.inl rfl) o e, r⟩, ⟨o2, kp a (.inr rfl) o2 e2, r2⟩⟩
  lv := fun n g j => ⟨let ⟨o, e, _⟩ := j.1; ⟨o, e⟩, let ⟨o, e, _⟩ := j.2; ⟨o, e⟩⟩
  nx := fun n A s Q E v j hv q => nextT_item j.1 j.2 hv fun k jk sb => q k ⟨jk, j.2.extBut sb.extBut hne⟩ sb
  en := fun n A s Q E hh j hv q => nextT_end hh j.1 j.2 hv q
theorem Src.ext {t a c : Addr} {J : Nat → Heap → Prop} {us : Array Value} (S : Src P w t a J us) {n : Nat} {g k : Heap} (j : J n g) (x : Heap.ExtBut c g k) (h1 : c ≠ t) (h2 : c ≠ a) : J n k :=
  S.fr n g k j fun b hb o e => x b o (by rcases hb with rfl | rfl; exact Ne.symm h1; exact Ne.symm h2) e
structure Ap2 (z ti to t1 t2 a1 a2 : Addr) : Prop where
  nd : [z, ti, to, t1, t2].Nodup
  a1 : a1 ∉ [z, ti, to, t1, t2]
  a2 : a2 ∉ [z, ti, to, t1, t2]
section
variable {z ti to t1 t2 a1 a2 : Addr}
theorem Ap2.n (D : Ap2 z ti to t1 t2 a1 a2) : (ti ≠ z ∧ to ≠ z ∧ t1 ≠ z ∧ t2 ≠ z) ∧ (ti ≠ to ∧ ti ≠ t1 ∧ ti ≠ t2) ∧ (to ≠ t1 ∧ to ≠ t2) ∧ t1 ≠ t2 := by
  have := D.nd
  simp only [List.nodup_cons, List.mem_cons, not_or, List.not_mem_nil, not_false_eq_true, and_true, List.nodup_nil] at this
  obtain ⟨⟨b1, b2, b3, b4⟩, ⟨b5, b6, b7⟩, ⟨b8, b9⟩, b10⟩ := this
  exact ⟨⟨Ne.symm b1, Ne.symm b2, Ne.symm b3, Ne.symm b4⟩, ⟨b5, b6, b7⟩, ⟨b8, b9⟩, b10⟩
theorem zip2_item {A : Around} {s : Shared} {E : Value → Shared → Prop} {J1 J2 : Nat → Heap → Prop} {us vs : Array Value} {n : Nat} {x y a b : Value} {Q : Value → Shared → Prop} (D : Ap2 z ti to t1 t2 a1 a2) (S1 : Src P w t1 a1 J1 us) (S2 : Src P w t2 a2 J2 vs)
    (Z : IsZip s.heap z ti to .none) (pI : IsPair s.heap ti (.ref t1) (.ref t2)) (pO : IsPair s.heap to a b) (j1 : J1 n s.heap) (j2 : J2 n s.heap) (ex : us[n]? = some x) (ey : vs[n]? = some y)
    (q : ∀ k, IsZip k z ti to (rawInt s.heap.objs.size) → IsPair k to x y → J1 (n + 1) k → J2 (n + 1) k → IsPair k s.heap.objs.size x y → k.objs.size = s.heap.objs.size + 1 →
      (∀ c o, c ≠ z → c ≠ to → c ≠ t1 → c ≠ t2 → s.heap.get? c = some o → k.get? c = some o) → Q (.ref s.heap.objs.size) { s with heap := k }) :
    wpAny (model P w) A (Builtin.«zip.__next__» ⟨[.ref z], []⟩) (fun fin s' => ∃ v, fin = .done (.ret v) ∧ Q v s') E s := by
  obtain ⟨⟨n1, n2, n3, n4⟩, ⟨n5, n6, n7⟩, ⟨n8, n9⟩, n10⟩ := D.n
  have m1 := D.a1
  have m2 := D.a2
  simp only [List.mem_cons, not_or, List.not_mem_nil, not_false_eq_true, and_true] at m1 m2
  show wpAny _ _ (field (.ref z) 2 >>= _) _ _ _
  refine wpAny_bind (wpAny_field Z rfl (x := .bool false) rfl ?_)
  show wpAny _ _ (field (.ref z) 3 >>= _) _ _ _
  refine wpAny_bind (wpAny_field Z rfl (x := .ref ti) rfl ?_)
  refine wpAny_bind (wpAny_seqItems pI rfl ?_)
  show wpAny _ _ (Builtin.SmallTypes.ownedTupleIsFree (.ref z) >>= _) _ _ _
  refine wpAny_bind ?_
  unfold Builtin.SmallTypes.ownedTupleIsFree
  refine wpAny_bind (wpAny_field Z rfl (x := .none) rfl (wpAny_pure ?_))
  simp only [if_true]
  refine wpAny_bind (wpAny_rule ?_)
  refine wpAny_bind (wpAny_field Z rfl (x := .ref to) rfl ?_)
  refine wpAny_bind (wpAny_setField_rec Z (by simp) fun k1 Z1 b1 => ?_)
  replace Z1 : IsZip k1 z ti to .ellipsis := Z1
  refine wpAny_bind ?_
  simp only [List.zipIdx_cons, List.zipIdx_nil, List.forIn_cons, List.forIn_nil]
  refine wpAny_bind (wpAny_bind (wpAny_onRaise ?_))
  show wpAny _ _ (Builtin.SmallTypes.nextOf (.ref t1) >>= _) _ _ _
  refine wpAny_bind (S1.nx n _ _ _ _ x (S1.ext j1 b1.extBut (Ne.symm n3) (Ne.symm m1.1)) ex fun k2 j1b b2 => wpAny_pure ?_)
  have pO2 : IsPair k2 to a b := b2.extBut _ _ n8 (b1.extBut _ _ n2 pO)
  refine wpAny_bind (wpAny_seqItems pO2 rfl ?_)
  refine wpAny_bind (wpAny_updateSeq_pair pO2 fun k3 pO3 b3 => ?_)
  replace pO3 : IsPair k3 to x b := pO3
  refine wpAny_bind (wpAny_letGo (wpAny_pure ?_))
  refine wpAny_bind (wpAny_bind (wpAny_onRaise ?_))
  show wpAny _ _ (Builtin.SmallTypes.nextOf (.ref t2) >>= _) _ _ _
  have j2c : J2 n k3 := S2.ext (S2.ext (S2.ext j2 b1.extBut (Ne.symm n4) (Ne.symm m2.1)) b2.extBut n10 (Ne.symm m2.2.2.2.1)) b3.extBut n9 (Ne.symm m2.2.2.1)
  refine wpAny_bind (S2.nx n _ _ _ _ y j2c ey fun k4 j2d b4 => wpAny_pure ?_)
  have pO4 : IsPair k4 to x b := b4.extBut _ _ n9 pO3
  refine wpAny_bind (wpAny_seqItems pO4 rfl ?_)
  refine wpAny_bind (wpAny_updateSeq_pair pO4 fun k5 pO5 b5 => ?_)
  replace pO5 : IsPair k5 to x y := pO5
  refine wpAny_bind (wpAny_letGo (wpAny_pure (wpAny_pure ?_)))
  refine wpAny_bind (wpAny_seqItems pO5 rfl ?_)
  refine wpAny_bind (wpAny_newTuple ?_)
  have sz : k5.objs.size = s.heap.objs.size := by rw [b5.1, b4.1, b3.1, b2.1, b1.1]
  have Z5 : IsZip k5 z ti to .ellipsis := b5.extBut _ _ (Ne.symm n2) (b4.extBut _ _ (Ne.symm n4) (b3.extBut _ _ (Ne.symm n2) (b2.extBut _ _ (Ne.symm n3) Z1)))
  have kp5 : ∀ c o, c ≠ z → c ≠ to → c ≠ t1 → c ≠ t2 → s.heap.get? c = some o → k5.get? c = some o := fun c o c1 c2 c3 c4 e => b5.extBut _ _ c2 (b4.extBut _ _ c4 (b3.extBut _ _ c2 (b2.extBut _ _ c3 (b1.extBut _ _ c1 e))))
  have j1e : J1 (n + 1) k5 := S1.ext (S1.ext (S1.ext j1b b3.extBut n8 (Ne.symm m1.2.2.1)) b4.extBut (Ne.symm n10) (Ne.symm m1.2.2.2.2)) b5.extBut n8 (Ne.symm m1.2.2.1)
  have j2e : J2 (n + 1) k5 := S2.ext j2d b5.extBut n9 (Ne.symm m2.2.2.1)
  have ltz : z < k5.objs.size := Heap.lt_size Z5
  show wpAny _ _ (Builtin.SmallTypes.ownedTupleHandOut (.ref z) (.ref k5.objs.size) >>= _) _ _ _
  refine wpAny_bind ?_
  unfold Builtin.SmallTypes.ownedTupleHandOut
  have Z6 : IsZip (k5.push { cls := .type "tuple", data := .seq #[x, y] }) z ti to .ellipsis := Heap.get?_push_of_some _ Z5
  refine wpAny_bind (wpAny_setField_rec Z6 (by simp) fun k7 Z7 b7 => ?_)
  replace Z7 : IsZip k7 z ti to (rawInt k5.objs.size) := Z7
  refine wpAny_setField_rec Z7 (by simp) fun k8 Z8 b8 => ?_
  replace Z8 : IsZip k8 z ti to (rawInt k5.objs.size) := Z8
  have up : ∀ c o, c ≠ z → k5.get? c = some o → k8.get? c = some o := fun c o c1 e => b8.extBut _ _ c1 (b7.extBut _ _ c1 (Heap.get?_push_of_some _ e))
  have pT : IsPair k8 k5.objs.size x y := b8.extBut _ _ (Nat.ne_of_gt ltz) (b7.extBut _ _ (Nat.ne_of_gt ltz) (Heap.get?_push_size _ rfl))
  have sz8 : k8.objs.size = k5.objs.size + 1 := by rw [b8.1, b7.1, Heap.size_push]
  rw [sz] at Z8 pT sz8
  refine wpAny_pure ⟨_, rfl, ?_⟩
  show Q (.ref k5.objs.size) _
  rw [sz]
  refine q k8 Z8 (up _ _ n2 pO5) (S1.fr _ _ _ j1e fun b hb o e => up b o ?_ e) (S2.fr _ _ _ j2e fun b hb o e => up b o ?_ e) pT sz8 fun c o c1 c2 c3 c4 e => up c o c1 (kp5 c o c1 c2 c3 c4 e)
  · rcases hb with rfl | rfl
    · exact n3
    · exact m1.1
  · rcases hb with rfl | rfl
    · exact n4
    · exact m2.1
theorem zip2_end {A : Around} {s : Shared} {E : Value → Shared → Prop} {J1 J2 : Nat → Heap → Prop} {us vs : Array Value} {n : Nat} {a b : Value} {Q : Fin → Shared → Prop} (hh : A.handled = none) (D : Ap2 z ti to t1 t2 a1 a2) (S1 : Src P w t1 a1 J1 us) (S2 : Src P w t2 a2 J2 vs)
    (Z : IsZip s.heap z ti to .none) (pI : IsPair s.heap ti (.ref t1) (.ref t2)) (pO : IsPair s.heap to a b) (j1 : J1 n s.heap) (j2 : J2 n s.heap) (he : us[n]? = none ∨ vs[n]? = none)
    (q : ∀ k e, (∀ c o, c ≠ z → c ≠ to → c ≠ t1 → c ≠ t2 → s.heap.get? c = some o → k.get? c = some o) → (∃ o, k.get? e = some o ∧ o.cls = .type "StopIteration") → E (.ref e) { s with heap := k }) :
    wpAny (model P w) A (Builtin.«zip.__next__» ⟨[.ref z], []⟩) Q E s := by
  obtain ⟨⟨n1, n2, n3, n4⟩, ⟨n5, n6, n7⟩, ⟨n8, n9⟩, n10⟩ := D.n
  have m1 := D.a1
  have m2 := D.a2
  simp only [List.mem_cons, not_or, List.not_mem_nil, not_false_eq_true, and_true] at m1 m2
  show wpAny _ _ (field (.ref z) 2 >>= _) _ _ _
  refine wpAny_bind (wpAny_field Z rfl (x := .bool false) rfl ?_)
  show wpAny _ _ (field (.ref z) 3 >>= _) _ _ _
  refine wpAny_bind (wpAny_field Z rfl (x := .ref ti) rfl ?_)
  refine wpAny_bind (wpAny_seqItems pI rfl ?_)
  show wpAny _ _ (Builtin.SmallTypes.ownedTupleIsFree (.ref z) >>= _) _ _ _
  refine wpAny_bind ?_
  unfold Builtin.SmallTypes.ownedTupleIsFree
  refine wpAny_bind (wpAny_field Z rfl (x := .none) rfl (wpAny_pure ?_))
  simp only [if_true]
  refine wpAny_bind (wpAny_rule ?_)
  refine wpAny_bind (wpAny_field Z rfl (x := .ref to) rfl ?_)
  refine wpAny_bind (wpAny_setField_rec Z (by simp) fun k1 Z1 b1 => ?_)
  replace Z1 : IsZip k1 z ti to .ellipsis := Z1
  refine wpAny_bind ?_
  simp only [List.zipIdx_cons, List.zipIdx_nil, List.forIn_cons, List.forIn_nil]
  refine wpAny_bind (wpAny_bind (wpAny_onRaise ?_))
  show wpAny _ _ (Builtin.SmallTypes.nextOf (.ref t1) >>= _) _ _ _
  have j1a : J1 n k1 := S1.ext j1 b1.extBut (Ne.symm n3) (Ne.symm m1.1)
  cases ex : us[n]? with
  | none =>
    refine wpAny_bind (S1.en n _ _ _ _ hh j1a ex fun k2 e b2 hx => ?_)
    obtain ⟨oe, he1, he2⟩ := hx
    have Z2 : IsZip k2 z ti to .ellipsis := b2 _ _ (Ne.symm n3) Z1
    have hez : e ≠ z := fun c => by subst c; rw [Z2] at he1; cases he1; simp at he2
    refine wpAny_setField_rec Z2 (by simp) fun k3 _ b3 => q k3 e (fun c o c1 _ c3 _ f => b3.extBut _ _ c1 (b2 _ _ c3 (b1.extBut _ _ c1 f))) ⟨oe, b3.extBut _ _ hez he1, he2⟩
  | some x =>
    have ey : vs[n]? = none := by
      rcases he with h | h
      · rw [ex] at h; cases h
      · exact h
    refine wpAny_bind (S1.nx n _ _ _ _ x j1a ex fun k2 j1b b2 => wpAny_pure ?_)
    have pO2 : IsPair k2 to a b := b2.extBut _ _ n8 (b1.extBut _ _ n2 pO)
    refine wpAny_bind (wpAny_seqItems pO2 rfl ?_)
    refine wpAny_bind (wpAny_updateSeq_pair pO2 fun k3 pO3 b3 => ?_)
    refine wpAny_bind (wpAny_letGo (wpAny_pure ?_))
    refine wpAny_bind (wpAny_bind (wpAny_onRaise ?_))
    show wpAny _ _ (Builtin.SmallTypes.nextOf (.ref t2) >>= _) _ _ _
    have j2c : J2 n k3 := S2.ext (S2.ext (S2.ext j2 b1.extBut (Ne.symm n4) (Ne.symm m2.1)) b2.extBut n10 (Ne.symm m2.2.2.2.1)) b3.extBut n9 (Ne.symm m2.2.2.1)
    refine wpAny_bind (S2.en n _ _ _ _ hh j2c ey fun k4 e b4 hx => ?_)
    obtain ⟨oe, he1, he2⟩ := hx
    have Z4 : IsZip k4 z ti to .ellipsis := b4 _ _ (Ne.symm n4) (b3.extBut _ _ (Ne.symm n2) (b2.extBut _ _ (Ne.symm n3) Z1))
    have hez : e ≠ z := fun c => by subst c; rw [Z4] at he1; cases he1; simp at he2
    refine wpAny_setField_rec Z4 (by simp) fun k5 _ b5 => q k5 e (fun c o c1 c2 c3 c4 f => b5.extBut _ _ c1 (b4 _ _ c4 (b3.extBut _ _ c2 (b2.extBut _ _ c3 (b1.extBut _ _ c1 f))))) ⟨oe, b5.extBut _ _ hez he1, he2⟩
end
end
end L3
namespace L3
open PySem L2
open PySem.Spec hiding items?
open PyProof.Rows hiding St
theorem turnT {X : Cx} {pins : List (Addr × Obj)} {σ : L2.St} {H : Hp} {s : Shared} {g : Heap} {tk : Nat} {fp : List Addr} {T : Addr} {xs : List V} (I : Inv X pins σ H s) (hf : ∀ b ∈ fp, FpOk X pins H b)
    (k : ∀ b o, b ∉ fp → s.heap.get? b = some o → g.get? b = some o) (hT : s.heap.objs.size ≤ T) (new : ObjOk X.prog X.w (upd H T (.tup xs)) g T (.tup xs)) : Inv X pins σ (upd H T (.tup xs)) { s with heap := g, toks := tk } := by
  have hn : H T = none := I.hok.fresh hT
  have nfp : ∀ b u, H b = some u → b ∉ fp := fun b u e z => by rw [(hf b z).1] at e; cases e
  have nT : ∀ b u, H b = some u → b ≠ T := fun b u e => ne_of_none e hn
  refine I.step (g' := s.gens) (d' := s.drawn) (ch := fp) (fun b hb => ?_) (fun b o _ _ hc e _ => k b o hc e) (fun b o _ _ hc e _ => ⟨o.slots, k b o hc e⟩) (fun b o _ e n => ?_) (fun b o hc e => ⟨o, k b o hc e⟩)
    (fun b ys e => by rw [upd_ne (nT b _ e)]; exact e) (fun b o u e => by rw [upd_ne (nT b _ e)]; exact e) (fun b ps e => ⟨#[], by rw [upd_ne (nT b _ e), e]; simp⟩) (fun m hm => ?_) (fun b u e => ?_) I.bare
  · obtain ⟨f0, f1, f2, f3, f4, f5⟩ := hf b hb
    exact ⟨f3, f1, f4, f5⟩
  · rw [upd_ne (Nat.ne_of_lt (Nat.lt_of_lt_of_le (Heap.lt_size e) hT))]; exact n
  · obtain ⟨o, es, ep, ho, r⟩ := hm
    exact ⟨o, es, ep, k _ o (fun z => (hf _ z).2.1 rfl) ho, r⟩
  · by_cases hb : b = T
    · subst hb; rw [upd_same] at e; cases e; exact new
    · rw [upd_ne hb] at e
      refine (I.hok b u e).stay (fun c v hc q => k c v ?_ q) (fun c q => by rw [upd_ne (nT c _ q)]; exact q) fun c ys q => by rw [upd_ne (nT c _ q)]; exact q
      rcases hc with z | z
      · rw [z]; exact nfp b u e
      · exact nfp c _ z
theorem turnN {X : Cx} {pins : List (Addr × Obj)} {σ : L2.St} {H : Hp} {s : Shared} {g : Heap} {tk : Nat} {fp : List Addr} (I : Inv X pins σ H s) (hf : ∀ b ∈ fp, FpOk X pins H b)
    (k : ∀ b o, b ∉ fp → s.heap.get? b = some o → g.get? b = some o) : Inv X pins σ H { s with heap := g, toks := tk } := by
  have nfp : ∀ b u, H b = some u → b ∉ fp := fun b u e z => by rw [(hf b z).1] at e; cases e
  refine I.step (g' := s.gens) (d' := s.drawn) (ch := fp) (fun b hb => ?_) (fun b o _ _ hc e _ => k b o hc e) (fun b o _ _ hc e _ => ⟨o.slots, k b o hc e⟩) (fun b o _ e n => n) (fun b o hc e => ⟨o, k b o hc e⟩)
    (fun b ys e => e) (fun b o u e => e) (fun b ps e => ⟨#[], by rw [e]; simp⟩) (fun m hm => ?_) (fun b u e => ?_) I.bare
  · obtain ⟨f0, f1, f2, f3, f4, f5⟩ := hf b hb
    exact ⟨f3, f1, f4, f5⟩
  · obtain ⟨o, es, ep, ho, r⟩ := hm
    exact ⟨o, es, ep, k _ o (fun z => (hf _ z).2.1 rfl) ho, r⟩
  · refine (I.hok b u e).stay (fun c v hc q => k c v ?_ q) (fun c q => q) fun c ys q => q
    rcases hc with z | z
    · rw [z]; exact nfp b u e
    · exact nfp c _ z
inductive SK where
  | l | t
def SqK (k : SK) (K : PySem.W.Frag) (H : Hp) (a : Addr) (xs : List V) : Prop := match k with
  | .l => SqL K H a xs
  | .t => SqT K H a xs
def ItK (k : SK) (t a : Addr) (n : Nat) (g : Heap) : Prop := match k with
  | .l => g.IsListIter t a n
  | .t => g.IsTupleIter t a n
def AtK (k : SK) (g : Heap) (a : Addr) (us : Array Value) : Prop := match k with
  | .l => g.IsList a us
  | .t => g.IsTuple a us
def itO (k : SK) (a : Addr) : Obj := match k with
  | .l => { cls := .type "list_iterator", data := .fields #[.ref a, .int 0 0] }
  | .t => { cls := .type "tuple_iterator", data := .fields #[.ref a, .int 0 0] }
theorem src_k {P : Program} {w : World} (k : SK) (t a : Addr) (hne : a ≠ t) (us : Array Value) : Src P w t a (fun n g => ItK k t a n g ∧ AtK k g a us) us := by
  cases k
  · exact src_list t a hne us
  · exact src_tup t a hne us
theorem sqk_at {X : Cx} {pins : List (Addr × Obj)} {σ : L2.St} {H : Hp} {s : Shared} {k : SK} {a : Addr} {xs : List V} (I : Inv X pins σ H s) (h : SqK k X.K H a xs) : ∃ its : List Value, Vals xs its ∧ AtK k s.heap a its.toArray := by
  cases k
  · obtain ⟨its, rv, p, _⟩ := I.list h
    exact ⟨its, rv, p.isList⟩
  · obtain ⟨its, rv, p, _⟩ := I.tuple h
    exact ⟨its, rv, p⟩
theorem sqk_inj {X : Cx} {pins : List (Addr × Obj)} {σ : L2.St} {H : Hp} {s : Shared} {k : SK} {a : Addr} {xs ys : List V} (I : Inv X pins σ H s) (h : SqK k X.K H a xs) (h' : SqK k X.K H a ys) : xs = ys := by
  cases k
  · exact I.list_inj h h'
  · exact I.tuple_inj h h'
theorem iter_k {P : Program} {w : World} {A : Around} {s : Shared} {E : Value → Shared → Prop} {k : SK} {a : Addr} {us : Array Value} {Q : Value → Shared → Prop} (h : AtK k s.heap a us) (q : Q (.ref s.heap.objs.size) { s with heap := s.heap.push (itO k a) }) : wpAny (model P w) A (pyIter (.ref a)) Q E s := by
  cases k
  · exact wpAny_pyIter_list h q
  · exact wpAny_pyIter_tuple h q
theorem AtK.push {k : SK} {g : Heap} {a : Addr} {us : Array Value} (h : AtK k g a us) (o : Obj) : AtK k (g.push o) a us := by
  cases k
  · obtain ⟨o', e, r⟩ := h; exact ⟨o', Heap.get?_push_of_some _ e, r⟩
  · obtain ⟨o', e, r⟩ := h; exact ⟨o', Heap.get?_push_of_some _ e, r⟩
theorem AtK.some {k : SK} {g : Heap} {a : Addr} {us : Array Value} (h : AtK k g a us) : ∃ o, g.get? a = Option.some o := by
  cases k
  · obtain ⟨o', e, r⟩ := h; exact ⟨o', e⟩
  · obtain ⟨o', e, r⟩ := h; exact ⟨o', e⟩
theorem itk_new {k : SK} {g h : Heap} {t a : Addr} (e : g.get? t = Option.some (itO k a)) : ItK k t a 0 g := by
  cases k
  · exact ⟨_, e, rfl, rfl⟩
  · exact ⟨_, e, rfl, rfl⟩
theorem itk_fr {k : SK} {t a : Addr} {n : Nat} {g g' : Heap} (h : ItK k t a n g) (kp : ∀ o, g.get? t = Option.some o → g'.get? t = Option.some o) : ItK k t a n g' := by
  cases k
  · obtain ⟨o, e, r⟩ := h; exact ⟨o, kp o e, r⟩
  · obtain ⟨o, e, r⟩ := h; exact ⟨o, kp o e, r⟩
theorem itk_obj {k : SK} {t a : Addr} {n : Nat} {g : Heap} (h : ItK k t a n g) : ∃ o, g.get? t = Option.some o ∧ ∀ v, o.data ≠ .cell v := by
  cases k
  · obtain ⟨o, e, c, d⟩ := h; exact ⟨o, e, fun v z => by rw [d] at z; cases z⟩
  · obtain ⟨o, e, c, d⟩ := h; exact ⟨o, e, fun v z => by rw [d] at z; cases z⟩
def Itz (K : PySem.W.Frag) (k1 k2 : SK) (a1 a2 : Addr) : It :=
  ⟨fun i H => ∃ xs ys x y, SqK k1 K H a1 xs ∧ SqK k2 K H a2 ys ∧ xs[i]? = some x ∧ ys[i]? = some y,
   fun i H v H' => ∃ T x y, H T = none ∧ v = .ref T ∧ H' = upd H T (.tup [x, y]) ∧ (∀ xs, SqK k1 K H a1 xs → xs[i]? = some x) ∧ ∀ ys, SqK k2 K H a2 ys → ys[i]? = some y,
   fun i H => ∃ xs ys, SqK k1 K H a1 xs ∧ SqK k2 K H a2 ys ∧ (xs.length ≤ i ∨ ys.length ≤ i)⟩
def ZipTn (z ti to t1 t2 a1 a2 : Addr) (k1 k2 : SK) (i : Nat) (h : Heap) : Prop := IsZip h z ti to .none ∧ IsPair h ti (.ref t1) (.ref t2) ∧ (∃ a b, IsPair h to a b) ∧ ItK k1 t1 a1 i h ∧ ItK k2 t2 a2 i h
theorem turn_zip {P : Program} {w : World} {K : PySem.W.Frag} {elts : List Expr} {kx : Nat} {pos : Pos} {z ti to t1 t2 a1 a2 : Addr} (k1 k2 : SK) (D : Ap2 z ti to t1 t2 a1 a2) :
    Turn P w K (.Tuple elts kx pos) (Itz K k1 k2 a1 a2) [z, ti, to, t1, t2] z (ZipTn z ti to t1 t2 a1 a2 k1 k2) where
  mem := by simp
  obj := fun i h st b hb => by
    obtain ⟨Z, pI, ⟨a, b', pO⟩, i1, i2⟩ := st
    simp only [List.mem_cons, List.not_mem_nil, or_false] at hb
    rcases hb with rfl | rfl | rfl | rfl | rfl
    · exact ⟨_, Z, fun v e => by cases e⟩
    · exact ⟨_, pI, fun v e => by cases e⟩
    · exact ⟨_, pO, fun v e => by cases e⟩
    · exact itk_obj i1
    · exact itk_obj i2
  keep := fun i h h' st k => by
    obtain ⟨Z, pI, ⟨a, b', pO⟩, i1, i2⟩ := st
    exact ⟨k z (by simp) _ Z, k ti (by simp) _ pI, ⟨a, b', k to (by simp) _ pO⟩, itk_fr i1 (k t1 (by simp)), itk_fr i2 (k t2 (by simp))⟩
  item := by
    intro X hP hw hK hc i pins s σ H E I hf st hg
    subst hP hw hK
    obtain ⟨Z, pI, ⟨a, b', pO⟩, i1, i2⟩ := st
    obtain ⟨xs, ys, x, y, q1, q2, ex, ey⟩ := hg
    obtain ⟨us, r1, l1⟩ := sqk_at I q1
    obtain ⟨vs, r2, l2⟩ := sqk_at I q2
    obtain ⟨u, eu, ru⟩ := r1.get ex
    obtain ⟨v, ev, rv⟩ := r2.get ey
    have m1 := D.a1
    have m2 := D.a2
    simp only [List.mem_cons, not_or, List.not_mem_nil, not_false_eq_true, and_true] at m1 m2
    obtain ⟨⟨n1, n2, n3, n4⟩, ⟨n5, n6, n7⟩, ⟨n8, n9⟩, n10⟩ := D.n
    have tz : s.TypeIs (.ref z) "zip" := ⟨_, Z, rfl⟩
    unfold pyNext
    refine wpAny_bind (wpAny_attempt (wpAny_callSpecial?_slot (name := Str.ofString "__next__") tz F.slot_zip_next (wpAny_call_entry F.slot_zip_next tz F.entry_zip_next (zip2_item D (src_k k1 t1 a1 m1.2.2.2.1 us.toArray) (src_k k2 t2 a2 m2.2.2.2.2 vs.toArray) Z pI pO ⟨i1, l1⟩ ⟨i2, l2⟩ (x := u) (y := v) (by simpa using eu) (by simpa using ev) fun k Z2 pO2 j1 j2 pT szk kp => wpAny_pure ⟨_, rfl, ?_⟩) (F.args_zip_next_1 _))))
    refine wpAny_letOwnedTupleGo_zip (s := { s with heap := k }) Z2 fun k' Z3 b3 => ?_
    have hT : s.heap.objs.size ≠ z := Nat.ne_of_gt (Heap.lt_size Z)
    have kp3 : ∀ b o, b ∉ [z, ti, to, t1, t2] → s.heap.get? b = some o → k'.get? b = some o := fun b o hb e => by
      simp only [List.mem_cons, not_or, List.not_mem_nil, not_false_eq_true, and_true] at hb
      exact b3.extBut _ _ hb.1 (kp b o hb.1 hb.2.2.1 hb.2.2.2.1 hb.2.2.2.2 e)
    refine ⟨.ref s.heap.objs.size, upd H s.heap.objs.size (.tup [x, y]), turnT (s := s) (tk := s.toks) I hf kp3 (Nat.le_refl _) ?_, rfl, ⟨s.heap.objs.size, x, y, I.hok.fresh (Nat.le_refl _), rfl, rfl, ?_, ?_⟩, ?_, ?_⟩
    · refine ⟨Nat.le_of_ble_eq_true rfl, [u, v], .cons ru (.cons rv .nil), ?_⟩
      exact ⟨_, b3.extBut _ _ hT pT, rfl, _, rfl⟩
    · intro xs' q'
      rw [sqk_inj I q' q1]; exact ex
    · intro ys' q'
      rw [sqk_inj I q' q2]; exact ey
    · refine ⟨Z3, b3.extBut _ _ n1 (kp _ _ n1 n5 n6 n7 pI), ⟨_, _, b3.extBut _ _ n2 pO2⟩, itk_fr j1.1 fun o e => b3.extBut _ _ n3 e, itk_fr j2.1 fun o e => b3.extBut _ _ n4 e⟩
    · intro b hb
      have : b ≠ s.heap.objs.size := by
        obtain ⟨o, e, _⟩ : ∃ o, s.heap.get? b = some o ∧ True := by
          simp only [List.mem_cons, List.not_mem_nil, or_false] at hb
          rcases hb with rfl | rfl | rfl | rfl | rfl
          · exact ⟨_, Z, trivial⟩
          · exact ⟨_, pI, trivial⟩
          · exact ⟨_, pO, trivial⟩
          · obtain ⟨o, e, _⟩ := itk_obj i1; exact ⟨o, e, trivial⟩
          · obtain ⟨o, e, _⟩ := itk_obj i2; exact ⟨o, e, trivial⟩
        exact Nat.ne_of_lt (Heap.lt_size e)
      rw [upd_ne this]
      exact (hf b hb).1
  done := by
    intro X hP hw hK hc i pins s σ H E I hf st hg
    subst hP hw hK
    obtain ⟨Z, pI, ⟨a, b', pO⟩, i1, i2⟩ := st
    obtain ⟨xs, ys, q1, q2, he⟩ := hg
    obtain ⟨us, r1, l1⟩ := sqk_at I q1
    obtain ⟨vs, r2, l2⟩ := sqk_at I q2
    have e1 := r1.length
    have e2 := r2.length
    have m1 := D.a1
    have m2 := D.a2
    simp only [List.mem_cons, not_or, List.not_mem_nil, not_false_eq_true, and_true] at m1 m2
    have tz : s.TypeIs (.ref z) "zip" := ⟨_, Z, rfl⟩
    unfold pyNext
    refine wpAny_bind (wpAny_attempt (wpAny_callSpecial?_slot (name := Str.ofString "__next__") tz F.slot_zip_next (wpAny_call_entry F.slot_zip_next tz F.entry_zip_next (zip2_end (I.ok.hd hc) D (src_k k1 t1 a1 m1.2.2.2.1 us.toArray) (src_k k2 t2 a2 m2.2.2.2.2 vs.toArray) Z pI pO ⟨i1, l1⟩ ⟨i2, l2⟩ ?_ fun k e kp hx => ?_) (F.args_zip_next_1 _))))
    · rcases he with h | h
      · left; simp; omega
      · right; simp; omega
    · obtain ⟨o, ho, hc2⟩ := hx
      refine wpAny_bind (wpAny_isInstance (T := "StopIteration") (b := true) ⟨o, ho, hc2⟩ isSubtype_stop ?_)
      refine wpAny_pure ⟨rfl, turnN (s := s) (tk := s.toks) I hf fun b o hb e => ?_⟩
      simp only [List.mem_cons, not_or, List.not_mem_nil, not_false_eq_true, and_true] at hb
      exact kp b o hb.1 hb.2.2.1 hb.2.2.2.1 hb.2.2.2.2 e
  self := fun _ _ _ _ _ st h => wpAny_pyIter_zip st.1 h
end L3
namespace L3
open PySem L2
open PySem.Spec hiding items?
open PyProof.Rows hiding St
abbrev zn1 (h : Heap) (k1 : SK) (a1 : Addr) : Heap := h.push (itO k1 a1)
abbrev zn2 (h : Heap) (k1 k2 : SK) (a1 a2 : Addr) : Heap := (zn1 h k1 a1).push (itO k2 a2)
abbrev zn3 (h : Heap) (k1 k2 : SK) (a1 a2 : Addr) : Heap := (zn2 h k1 k2 a1 a2).push { cls := .type "tuple", data := .seq #[.ref h.objs.size, .ref (zn1 h k1 a1).objs.size] }
abbrev zn4 (h : Heap) (k1 k2 : SK) (a1 a2 : Addr) : Heap := (zn3 h k1 k2 a1 a2).push { cls := .type "tuple", data := .seq #[.none, .none] }
abbrev zn5 (h : Heap) (k1 k2 : SK) (a1 a2 : Addr) : Heap := (zn4 h k1 k2 a1 a2).push { cls := .type "zip", data := .fields #[.none, .bool false, .bool false, .ref (zn2 h k1 k2 a1 a2).objs.size, .ref (zn3 h k1 k2 a1 a2).objs.size] }
theorem zip_meets (k1 k2 : SK) (a1 a2 : Addr) (us vs : Array Value) : Meets (Builtin.«zip.__new__» ⟨[.type "zip", .ref a1, .ref a2], []⟩) (fun _ R s => AtK k1 s.heap a1 us ∧ AtK k2 s.heap a2 vs ∧
    R (.ok (.ret (.ref (zn4 s.heap k1 k2 a1 a2).objs.size))) { s with heap := zn5 s.heap k1 k2 a1 a2 }) :=
  .of_wp fun P w A R s h => by
    obtain ⟨hp, g, d, tk, os⟩ := s
    obtain ⟨c1, c2, h⟩ := h
    have hsub := sub_zip
    have L1 : AtK k1 (Shared.heap ⟨hp, g, d, tk, os⟩) a1 us := c1
    have L2 : AtK k2 (Shared.heap ⟨hp.push (itO k1 a1), g, d, tk, os⟩) a2 vs := AtK.push c2 _
    wp_walk using iter_k L1, iter_k L2
    exact ⟨_, rfl, h⟩
theorem zip_call {P : Program} {w : World} {A : Around} {s : Shared} {E : Value → Shared → Prop} {k1 k2 : SK} {a1 a2 : Addr} {us vs : Array Value} {Q : Value → Shared → Prop} (c1 : AtK k1 s.heap a1 us) (c2 : AtK k2 s.heap a2 vs)
    (q : ∀ g n, n = s.heap.objs.size → IsZip g (n + 4) (n + 2) (n + 3) .none → IsPair g (n + 2) (.ref n) (.ref (n + 1)) → IsPair g (n + 3) .none .none → ItK k1 n a1 0 g → ItK k2 (n + 1) a2 0 g → (∀ c o, s.heap.get? c = some o → g.get? c = some o) → Q (.ref (n + 4)) { s with heap := g }) :
    wpAny (model P w) A (call (.type "zip") [.ref a1, .ref a2]) Q E s := by
  refine callType_new F.called_zip (by decide) (F.typeCall_zip_2 _ _) (F.newCall_zip_2 _ _) (fun ob => F.args_object_init_3 ob _ _) F.entry_zip_new (zip_meets k1 k2 a1 a2 us vs) ⟨c1, c2, ?_⟩
  have y1 : (zn1 s.heap k1 a1).objs.size = s.heap.objs.size + 1 := Heap.size_push ..
  have y2 : (zn2 s.heap k1 k2 a1 a2).objs.size = s.heap.objs.size + 2 := by rw [Heap.size_push, y1]
  have y3 : (zn3 s.heap k1 k2 a1 a2).objs.size = s.heap.objs.size + 3 := by rw [Heap.size_push, y2]
  have y4 : (zn4 s.heap k1 k2 a1 a2).objs.size = s.heap.objs.size + 4 := by rw [Heap.size_push, y3]
  have e5 : (zn5 s.heap k1 k2 a1 a2).get? (zn4 s.heap k1 k2 a1 a2).objs.size = some _ := Heap.get?_push_size _ rfl
  have e4 : (zn5 s.heap k1 k2 a1 a2).get? (zn3 s.heap k1 k2 a1 a2).objs.size = some _ := Heap.get?_push_of_some _ (Heap.get?_push_size _ rfl)
  have e3 : (zn5 s.heap k1 k2 a1 a2).get? (zn2 s.heap k1 k2 a1 a2).objs.size = some _ := Heap.get?_push_of_some _ (Heap.get?_push_of_some _ (Heap.get?_push_size _ rfl))
  have e2 : (zn5 s.heap k1 k2 a1 a2).get? (zn1 s.heap k1 a1).objs.size = some (itO k2 a2) := Heap.get?_push_of_some _ (Heap.get?_push_of_some _ (Heap.get?_push_of_some _ (Heap.get?_push_size _ (by cases k2 <;> rfl))))
  have e1 : (zn5 s.heap k1 k2 a1 a2).get? s.heap.objs.size = some (itO k1 a1) := Heap.get?_push_of_some _ (Heap.get?_push_of_some _ (Heap.get?_push_of_some _ (Heap.get?_push_of_some _ (Heap.get?_push_size _ (by cases k1 <;> rfl)))))
  show _ ∧ _
  rw [y2, y3, y4] at e5
  rw [y1, y2] at e3
  rw [y3] at e4
  rw [y1] at e2
  rw [y4]
  exact ⟨⟨_, e5, rfl⟩, q _ _ rfl e5 e3 e4 (itk_new (h := s.heap) e1) (itk_new (h := s.heap) e2) fun c o x => Heap.get?_push_of_some _ (Heap.get?_push_of_some _ (Heap.get?_push_of_some _ (Heap.get?_push_of_some _ (Heap.get?_push_of_some _ x))))⟩
def kOf : D → SK
  | .tup _ => .t
  | _ => .l
def SqG (k : SK) (G : Hp) (a : Addr) (vs : List V) : Prop := match k with
  | .l => Rd G a (.lst vs)
  | .t => G a = some (.tup vs)
theorem sqg_k {K : PySem.W.Frag} {k : SK} {G F H : Hp} (P : Spl G F H) {a : Addr} {vs : List V} (h : SqG k G a vs) : SqK k K H a vs := by
  cases k
  · exact .inl (rd_up P h)
  · exact SqT.of (P.get h)
theorem items_k {α : List (Option Addr)} {H : Hp} {st : Store} {d : D} {v : V} {xs : List D} (S : StRel α st H) (r : Rep α H d v) (e : items? st d = some xs) : ∃ p vs, v = .ref p ∧ Reps α H xs vs ∧ SqG (kOf d) H p vs := by
  cases d <;> try (cases e; done)
  · unfold items? at e
    simp only at e
    split at e
    · rename_i ys q
      cases e
      obtain ⟨a, ea, vs, h1, h2⟩ := S.lstAt q
      exact ⟨a, vs, rep_at ea r, h2, Rd.of h1⟩
    · cases e
  · cases e
    unfold Rep at r
    obtain ⟨a, vs, rfl, _, h1, h2⟩ := r
    exact ⟨a, vs, rfl, h2, h1⟩
  · cases e
    unfold Rep at r
    obtain ⟨a, vs, rfl, _, h1, h2⟩ := r
    exact ⟨a, vs, rfl, h2, h1⟩
def zipD (xs ys : List D) : List D := (xs.zip ys).map fun p => .tup [p.1, p.2]
theorem zipD_len {xs ys : List D} : (zipD xs ys).length = min xs.length ys.length := by unfold zipD; simp
theorem zipD_get {xs ys : List D} {n : Nat} {d : D} (e : (zipD xs ys)[n]? = some d) : ∃ x y, xs[n]? = some x ∧ ys[n]? = some y ∧ d = .tup [x, y] := by
  unfold zipD at e
  rw [List.getElem?_map] at e
  cases q : (xs.zip ys)[n]? with
  | none => rw [q] at e; cases e
  | some p =>
    rw [q] at e
    cases e
    rw [List.getElem?_zip_eq_some] at q
    exact ⟨p.1, p.2, q.1, q.2, rfl⟩
theorem it_zip {K : PySem.W.Frag} {k1 k2 : SK} {a1 a2 : Addr} {α : List (Option Addr)} {G : Hp} {ok : Store → Prop} {xs ys : List D}
    (h : ∀ α' G' st', Step α G α' G' → StRel α' st' G' → ok st' → ∃ vs ws, SqG k1 G' a1 vs ∧ SqG k2 G' a2 ws ∧ Reps α' G' xs vs ∧ Reps α' G' ys ws) : ItOk (Itz K k1 k2 a1 a2) α G ok (zipD xs ys) where
  stop := fun n α' G' F' H' st' s P S o hn => by
    obtain ⟨vs, ws, h1, h2, r1, r2⟩ := h α' G' st' s S o
    rw [zipD_len] at hn
    refine ⟨vs, ws, sqg_k P h1, sqg_k P h2, ?_⟩
    have := r1.length
    have := r2.length
    omega
  go := fun n d α' G' F' H' st' s P S o hn => by
    obtain ⟨vs, ws, h1, h2, r1, r2⟩ := h α' G' st' s S o
    obtain ⟨x, y, ex, ey, rfl⟩ := zipD_get hn
    obtain ⟨v, ev, _⟩ := r1.get ex
    obtain ⟨u, eu, _⟩ := r2.get ey
    exact ⟨vs, ws, v, u, sqg_k P h1, sqg_k P h2, ev, eu⟩
  yld := fun n d α' G' F' H' st' x H'' s P S o hn y => by
    obtain ⟨vs, ws, h1, h2, r1, r2⟩ := h α' G' st' s S o
    obtain ⟨c, e, ec, ee, rfl⟩ := zipD_get hn
    obtain ⟨T, v, u, hT, rfl, rfl, y1, y2⟩ := y
    obtain ⟨v', ev, rv⟩ := r1.get ec
    obtain ⟨u', eu, ru⟩ := r2.get ee
    rw [y1 vs (sqg_k P h1)] at ev
    rw [y2 ws (sqg_k P h2)] at eu
    cases ev
    cases eu
    have hg := (P.none hT).1
    refine ⟨upd G' T (.tup [v, u]), Step.laid hg, P.laid hT, S.laid hg, ?_⟩
    unfold Rep
    refine ⟨T, [v, u], rfl, S.notin hg, upd_same, ?_⟩
    unfold Reps
    refine ⟨v, [u], rfl, rv.step (Step.laid hg), ?_⟩
    unfold Reps
    exact ⟨u, [], rfl, ru.step (Step.laid hg), by unfold Reps; rfl⟩
def zipR (ds : List D) (st1 : Store) (K : List D → (Store → Prop) → Store → Prop) : Prop := match ds with
  | [x, y] => (match items? st1 x, items? st1 y with
    | some xs, some ys => K (zipD xs ys) (fun st' => items? st' x = some xs ∧ items? st' y = some ys) st1
    | _, _ => False)
  | _ => False
@[irreducible] def xZipR : List D → Store → (List D → (Store → Prop) → Store → Prop) → Prop := zipR
def xZip (t : DA) : DI := fun σ st K => t σ st fun ds st1 => xZipR ds st1 K
theorem ap2_new {n a1 a2 : Nat} (h1 : a1 < n) (h2 : a2 < n) : Ap2 (n + 4) (n + 2) (n + 3) n (n + 1) a1 a2 := by
  have e0 : ([n + 4, n + 2, n + 3, n, n + 1] : List Nat).Nodup := by
    simp only [List.nodup_cons, List.mem_cons, not_or, List.not_mem_nil, not_false_eq_true, and_true, List.nodup_nil]
    omega
  have e1 : ∀ a : Nat, a < n → a ∉ ([n + 4, n + 2, n + 3, n, n + 1] : List Nat) := fun a ha => by
    simp only [List.mem_cons, not_or, List.not_mem_nil, not_false_eq_true, and_true]
    omega
  exact ⟨e0, e1 a1 h1, e1 a2 h2⟩
theorem di_zip {X : Cx} {a b : Expr} {elts : List Expr} {kx : Nat} {tpos p pos : Pos} {t : DA} (hg : Gl X "zip") (hm : X.mg "zip" = none) (ha : PA X [a, b] (LA t)) (hs : starEach [a, b] X.env = [(false, eval a X.env), (false, eval b X.env)]) (hs2 : starEach [b] X.env = [(false, eval b X.env)]) :
    PI X (.Tuple elts kx tpos) (.Call (.Name "zip" p) [a, b] [] pos) (LI (xZip t)) := by
  intro pins s σ H R I h
  obtain ⟨α, σd, st, K, G, F, P, RS, S, t, k⟩ := h
  refine Call_ (ld_blt I hg hm boot_zip (PyProof.Rows.callWith_type1 (thn (ha pos pins s σ H (fun vs H1 => ∃ ds α1 G1 st1, Step α G α1 G1 ∧ Spl G1 F H1 ∧ StRel α1 st1 G1 ∧ Reps α1 G1 ds vs ∧ xZipR ds st1 K) I ⟨α, σd, st, _, G, F, P, RS, S, t, fun ds st1 q α1 G1 H1 vs s1 P1 S1 r1 => ⟨ds, α1, G1, st1, s1, P1, S1, r1, q⟩⟩) fun us s1 ⟨vs, H1, I1, rv, ds, α1, G1, st1, w1, P1, S1, r1, q⟩ => ?_) (by rw [hs, hs2]) (by rw [hs2]; rfl)))
  unfold xZipR zipR at q
  split at q
  · rename_i x y
    split at q
    · rename_i xs ys ex ey
      obtain ⟨v1, v2, rfl, q1, q2⟩ := reps2 r1 rfl
      obtain ⟨p1, vs1, rfl, g1, c1⟩ := items_k S1 q1 ex
      obtain ⟨p2, vs2, rfl, g2, c2⟩ := items_k S1 q2 ey
      obtain ⟨u1, u2, rfl, ru1, ru2⟩ := vals2 rv
      cases ru1
      cases ru2
      obtain ⟨its1, _, l1⟩ := sqk_at I1 (sqg_k P1 c1)
      obtain ⟨its2, _, l2⟩ := sqk_at I1 (sqg_k P1 c2)
      refine zip_call l1 l2 fun g n hn Z pI pO i1 i2 kp => ?_
      obtain ⟨o1, eo1⟩ := l1.some
      obtain ⟨o2, eo2⟩ := l2.some
      refine wpAny_pyIter_zip (s := { s1 with heap := g }) Z ?_
      refine ⟨n + 4, [n + 4, n + 2, n + 3, n, n + 1], _, _, H1, rfl, I1.kept (t' := s1.toks) kp, turn_zip (kOf x) (kOf y) (ap2_new (by rw [hn]; exact Heap.lt_size eo1) (by rw [hn]; exact Heap.lt_size eo2)), ⟨Z, pI, ⟨_, _, pO⟩, i1, i2⟩, fun b hb => ?_, ?_⟩
      · have hb' : s1.heap.objs.size ≤ b := by
          simp only [List.mem_cons, List.not_mem_nil, or_false] at hb
          rcases hb with rfl | rfl | rfl | rfl | rfl <;> (rw [← hn]; first | exact Nat.le_refl _ | exact Nat.le_add_right _ _)
        exact I1.fpOk hb' (I1.hok.fresh hb')
      · refine k _ _ st1 q _ α1 G1 H1 w1 P1 S1 (it_zip fun α' G' st' s' S' o => ?_)
        obtain ⟨p1', ws1, e1, f1, d1⟩ := items_k S' (q1.step s') o.1
        obtain ⟨p2', ws2, e2, f2, d2⟩ := items_k S' (q2.step s') o.2
        cases e1
        cases e2
        exact ⟨ws1, ws2, d1, d2, f1, f2⟩
    · exact q.elim
  · exact q.elim
theorem st_zip {st : Store} {x y : D} {xs ys : List D} {K : List D → (Store → Prop) → Store → Prop} (ex : items? st x = some xs) (ey : items? st y = some ys) (k : ∀ ok : Store → Prop, (∀ st', items? st' x = some xs → items? st' y = some ys → ok st') → K (zipD xs ys) ok st) : xZipR [x, y] st K := by
  unfold xZipR zipR
  simp only [ex, ey]
  exact k _ fun st' h1 h2 => ⟨h1, h2⟩
theorem j_zip {X : Cx} {a b : Expr} {elts : List Expr} {kx : Nat} {tpos p pos : Pos} {ar : DA} (hg : Gl X "zip") (hm : X.mg "zip" = none) (ha : JA X [a, b] ar) (hs : notStar a = true := by rfl) (hs2 : notStar b = true := by rfl) : JI X (.Tuple elts kx tpos) (.Call (.Name "zip" p) [a, b] [] pos) (xZip ar) := by
  unfold JI; unfold JA at ha; exact di_zip hg hm ha (by rw [star_cons hs, star_cons hs2]; rfl) (star_cons hs2)
end L3
namespace L3
open PySem L2
open PySem.Spec hiding items?
open PyProof.Rows hiding St
section
variable {X : Cx}
theorem vals_ints : ∀ {ns : List Int} {us : List Value}, Vals (ns.map V.int) us → ∀ (i : Nat) (u : Value), us[i]? = some u → ∃ t, u = Value.int (ns.getD i 0) t
  | [], _, .nil, i, u, e => by simp at e
  | n :: ns, _, .cons h t, 0, u, e => by
    obtain ⟨tk, rfl⟩ := h
    simp at e
    exact ⟨tk, by rw [← e]; rfl⟩
  | n :: ns, _, .cons h t, i + 1, u, e => by
    obtain ⟨tk, q⟩ := vals_ints t i u (by simpa using e)
    exact ⟨tk, by rw [q]; simp⟩
end
end L3
namespace L3
open PySem L2
open PySem.Spec hiding items?
open PyProof.Rows hiding St
section
variable {X : Cx} {pos : Pos}
end
end L3
namespace L3
open PySem L2 PySem.SeqAt
open PySem.Spec hiding items?
open PyProof.Rows hiding St
section
variable {X : Cx} {pins : List (Addr × Obj)} {σ : L2.St} {H : Hp} {s : Shared} {α : List (Option Addr)}
theorem ne_scal {A : Around} {d e : D} {x y : V} {u v : Value} (hd : scD d = true) (he : scD e = true) (rd : Rep α H d x) (re : Rep α H e y) (rx : RelV x u) (ry : RelV y v) : RcNeAt A s u v (!eqD d e) := by
  cases d <;> cases e <;> try (first | (cases hd; done) | (cases he; done))
  all_goals (unfold Rep at rd re; subst rd re)
  all_goals (first | (obtain ⟨t, rfl⟩ := rx; obtain ⟨t', rfl⟩ := ry) | (obtain ⟨t, rfl⟩ := rx; cases ry) | (cases rx; obtain ⟨t, rfl⟩ := ry) | (cases rx; cases ry))
  all_goals unfold eqD
  · exact RcNeAt.none_none
  · exact RcNeAt.none_bool _
  · exact RcNeAt.none_int _ _
  · exact RcNeAt.none_str _ _
  · exact RcNeAt.bool_none _
  · exact RcNeAt.bool_bool _ _
  · exact RcNeAt.bool_int _ _ _
  · exact RcNeAt.bool_str _ _ _
  · exact RcNeAt.int_none _ _
  · exact RcNeAt.int_bool _ _ _
  · exact RcNeAt.int_int _ _ _ _
  · exact RcNeAt.int_str _ _ _ _
  · exact RcNeAt.str_none _ _
  · exact RcNeAt.str_bool _ _ _
  · exact RcNeAt.str_int _ _ _ _
  · exact RcNeAt.str_str _ _ _ _
theorem ne_lst_sc (I : Inv X pins σ H s) {A : Around} {xs : List D} {e : D} {x y : V} {u v : Value} (he : scD e = true) (rd : Rep α H (.lst xs) x) (re : Rep α H e y) (rx : RelV x u) (ry : RelV y v) (hu : A.units < cLine) :
    RcNeAt A s u v (!eqD (.lst xs) e) ∧ RcNeAt A s v u (!eqD e (.lst xs)) := by
  obtain ⟨a, vs, its, rfl, _, _, hl⟩ := lst_is I rd rx
  cases e <;> try (cases he; done)
  all_goals (unfold Rep at re; subst re)
  all_goals (first | (obtain ⟨t, rfl⟩ := ry) | (cases ry))
  all_goals unfold eqD
  · exact ⟨RcNeAt.list_none hl hu, RcNeAt.none_list hl hu⟩
  · exact ⟨RcNeAt.list_bool _ hl hu, RcNeAt.bool_list _ hl hu⟩
  · exact ⟨RcNeAt.list_int _ _ hl hu, RcNeAt.int_list _ _ hl hu⟩
  · exact ⟨RcNeAt.list_str _ _ hl hu, RcNeAt.str_list _ _ hl hu⟩
theorem ne_tup_sc (I : Inv X pins σ H s) {A : Around} {xs : List D} {e : D} {x y : V} {u v : Value} (he : scD e = true) (rd : Rep α H (.tup xs) x) (re : Rep α H e y) (rx : RelV x u) (ry : RelV y v) (hu : A.units < cLine) :
    RcNeAt A s u v (!eqD (.tup xs) e) ∧ RcNeAt A s v u (!eqD e (.tup xs)) := by
  obtain ⟨a, vs, its, rfl, _, _, hl⟩ := tup_is I rd rx
  cases e <;> try (cases he; done)
  all_goals (unfold Rep at re; subst re)
  all_goals (first | (obtain ⟨t, rfl⟩ := ry) | (cases ry))
  all_goals unfold eqD
  · exact ⟨RcNeAt.tuple_none hl hu, RcNeAt.none_tuple hl hu⟩
  · exact ⟨RcNeAt.tuple_bool _ hl hu, RcNeAt.bool_tuple _ hl hu⟩
  · exact ⟨RcNeAt.tuple_int _ _ hl hu, RcNeAt.int_tuple _ _ hl hu⟩
  · exact ⟨RcNeAt.tuple_str _ _ hl hu, RcNeAt.str_tuple _ _ hl hu⟩
theorem ne_ok (I : Inv X pins σ H s) (n : Nat) (A : Around) (d e : D) (x y : V) (u v : Value) (hd : pl n d = true) (he : pl n e = true) (rd : Rep α H d x) (re : Rep α H e y) (rx : RelV x u) (ry : RelV y v) (hu : A.units + n < cLine) : RcNeAt A s u v (!eqD d e) := by
  cases n with
  | zero =>
    refine ne_scal ?_ ?_ rd re rx ry
    · cases d <;> first | rfl | (cases hd)
    · cases e <;> first | rfl | (cases he)
  | succ n =>
    have hu0 : A.units < cLine := by omega
    have hin : A.in1.units + n < cLine := by rw [Around.in1_units]; omega
    cases d <;> try (cases hd; done)
    case lst xs =>
      cases e <;> try (cases he; done)
      case lst ys =>
        obtain ⟨a, vs, its, rfl, r1, v1, l1⟩ := lst_is I rd rx
        obtain ⟨b, ws, jts, rfl, r2, v2, l2⟩ := lst_is I re ry
        have e1 := r1.length
        have e2 := v1.length
        have e3 := r2.length
        have e4 := v2.length
        unfold eqD
        by_cases hlen : xs.length = ys.length
        · rw [eqDs_all hlen]
          have hsz : its.toArray.size = jts.toArray.size := by simp only [List.size_toArray]; omega
          have hx : xs.length = its.toArray.size := by simp only [List.size_toArray]; omega
          rw [hx]
          refine RcNeAt.lists l1 l2 hsz hu0 fun j h1 h2 => ?_
          obtain ⟨p, _, q1, q2⟩ := rep_get r1 v1 j (by simpa using h1)
          obtain ⟨p', _, q1', q2'⟩ := rep_get r2 v2 j (by simpa using h2)
          exact (eq_ok I n A.in1 _ _ p p' _ _ (all_getD (by unfold pl at hd; exact hd) j) (all_getD (by unfold pl at he; exact he) j) q1 q1' (by simpa using q2) (by simpa using q2') hin).2
        · rw [eqDs_len hlen]
          exact RcNeAt.lists_lengths l1 l2 (by simp only [List.size_toArray, bne_iff_ne, ne_eq]; omega) hu0
      case tup ys =>
        obtain ⟨a, vs, its, rfl, r1, v1, l1⟩ := lst_is I rd rx
        obtain ⟨b, ws, jts, rfl, r2, v2, l2⟩ := tup_is I re ry
        unfold eqD
        exact RcNeAt.list_tuple l1 l2 hu0
      all_goals exact (ne_lst_sc I rfl rd re rx ry hu0).1
    case tup xs =>
      cases e <;> try (cases he; done)
      case tup ys =>
        obtain ⟨a, vs, its, rfl, r1, v1, l1⟩ := tup_is I rd rx
        obtain ⟨b, ws, jts, rfl, r2, v2, l2⟩ := tup_is I re ry
        have e1 := r1.length
        have e2 := v1.length
        have e3 := r2.length
        have e4 := v2.length
        unfold eqD
        have key := RcNeAt.tuples (e := fun j => eqD (xs.getD j .non) (ys.getD j .non)) l1 l2 hu0 fun j h1 h2 => by
          obtain ⟨p, _, q1, q2⟩ := rep_get r1 v1 j (by simpa using h1)
          obtain ⟨p', _, q1', q2'⟩ := rep_get r2 v2 j (by simpa using h2)
          exact (eq_ok I n A.in1 _ _ p p' _ _ (all_getD (by unfold pl at hd; exact hd) j) (all_getD (by unfold pl at he; exact he) j) q1 q1' (by simpa using q2) (by simpa using q2') hin).2
        by_cases hlen : xs.length = ys.length
        · rw [eqDs_all hlen]
          have hsz : its.toArray.size = jts.toArray.size := by simp only [List.size_toArray]; omega
          have hx : xs.length = its.toArray.size := by simp only [List.size_toArray]; omega
          rw [hsz, Nat.min_self, beq_self_eq_true, Bool.and_true, ← hsz, ← hx] at key
          exact key
        · rw [eqDs_len hlen]
          have hne : (its.toArray.size == jts.toArray.size) = false := by simp only [List.size_toArray, beq_eq_false_iff_ne, ne_eq]; omega
          rw [hne, Bool.and_false] at key
          exact key
      case lst ys =>
        obtain ⟨a, vs, its, rfl, r1, v1, l1⟩ := tup_is I rd rx
        obtain ⟨b, ws, jts, rfl, r2, v2, l2⟩ := lst_is I re ry
        unfold eqD
        exact RcNeAt.tuple_list l1 l2 hu0
      all_goals exact (ne_tup_sc I rfl rd re rx ry hu0).1
    all_goals
      cases e <;> try (cases he; done)
      case lst ys => exact (ne_lst_sc I rfl re rd ry rx hu0).2
      case tup ys => exact (ne_tup_sc I rfl re rd ry rx hu0).2
      all_goals exact ne_scal rfl rfl rd re rx ry
def dNeD : DR2 := fun x y st K => pl 40 x = true ∧ pl 40 y = true ∧ K (.bl (!eqD x y)) st
theorem o_neD {k : Nat} (hr : Room k X.A) : OpR X (compareOp .NotEq) (LR dNeD) := fun pins s σ H x y v u Q I rx ry ⟨α, d, e, st, K, G, F', P, r1, r2, S, q, k⟩ => by
  have hu := hr.units
  exact ne_ok I 40 X.A d e x y v u q.1 q.2.1 (r1.mono P.same) (r2.mono P.same) rx ry (by omega) _ _ _ _ ⟨.bl (!eqD d e), H, I, rfl, k.here P q.2.2 S (by unfold Rep; rfl)⟩
@[irreducible] def xNeD : DR2 := dNeD
theorem x_neD {k : Nat} (hr : Room k X.A) : OpR X (compareOp .NotEq) (LR xNeD) := by unfold xNeD; exact o_neD hr
end
theorem st_neD {st : Store} {K : DK} {d e : D} (h1 : pl 40 d = true) (h2 : pl 40 e = true) (k : K (.bl (!eqD d e)) st) : xNeD d e st K := by unfold xNeD; exact ⟨h1, h2, k⟩
theorem neD_same {st : Store} {K : DK} {d : D} (h : pl 40 d = true) (k : K (.bl false) st) : xNeD d d st K := st_neD h h (by rw [eqD_refl 40 d h]; exact k)
theorem ref_items {st : Store} {n : Nat} {xs : List D} (h : items? st (.ref n) = some xs) : st[n]? = some (.lst xs) := by
  unfold items? at h
  simp only at h
  split at h
  · rename_i q; cases h; exact q
  · cases h
theorem st_seqE {st : Store} {d : D} {xs : List D} {K : List D → (Store → Prop) → Store → Prop} (h : items? st d = some xs) (k : ∀ ok : Store → Prop, (∀ st', items? st' d = some xs → ok st') → K xs ok st) : xSeq d st K := by
  cases d with
  | lst ys => cases h; exact st_seqL (k _ fun _ _ => trivial)
  | tup ys => cases h; exact st_seqT (k _ fun _ _ => trivial)
  | ref n =>
    have e := ref_items h
    unfold xSeq seqR
    simp only [e]
    exact k _ fun st' h' => ref_items h'
  | _ => cases h
theorem relabel_cf {env : Env} : ∀ (l : List (Str × NameKind)) (x : Str), (l.lookup x = some .cell ∨ l.lookup x = some .free) →
    ((l.map fun (n, k) => if (k == .free && env.scope.kind == .function && env.kindOf n == some .cell) then (n, .cell) else (n, k)).lookup x = some .cell ∨ (l.map fun (n, k) => if (k == .free && env.scope.kind == .function && env.kindOf n == some .cell) then (n, .cell) else (n, k)).lookup x = some .free)
  | [], x, h => by simp at h
  | (n, k) :: l, x, h => by
    rw [List.map_cons]
    dsimp only
    by_cases hx : x = n
    · subst hx
      rw [List.lookup_cons_self] at h
      split
      · rw [List.lookup_cons_self]; exact .inl rfl
      · rw [List.lookup_cons_self]; exact h
    · have hb : (x == n) = false := by simpa using hx
      have e1 : List.lookup x ((n, k) :: l) = List.lookup x l := by rw [List.lookup_cons, hb]
      rw [e1] at h
      have ih := relabel_cf (env := env) l x h
      split
      · rw [List.lookup_cons, hb]; exact ih
      · rw [List.lookup_cons, hb]; exact ih
theorem CompSc.lookC {X0 : Cx} {scope0 scope : Scope} {Nc0 Nc : List Str} {C : Addr} {s : Shared} {H : Hp} {ex : List Addr} {fr : List (Option Nat)} (h : compOk scope0 Nc0 scope Nc fr = true) : CompSc (cxC X0 scope0 Nc0 C s H ex) scope Nc fr := by
  unfold compOk at h
  simp only [Bool.and_eq_true] at h
  obtain ⟨⟨⟨⟨⟨h1, h2⟩, h3⟩, h4⟩, h5⟩, h6⟩ := h
  refine ⟨by simpa using h1, fun x hx hk => ?_, fun x hx hk => ?_, fun x hx hk => ?_, by simpa using h5, fun i j x e1 e2 => ?_⟩
  · have := List.all_eq_true.mp h2 x hx
    rw [hk] at this
    simpa using this
  · have := List.all_eq_true.mp h3 x hx
    rw [hk] at this
    simpa using this
  · have := List.all_eq_true.mp h4 x hx
    rw [hk] at this
    have z : scope0.names.lookup x.1 = some .cell ∨ scope0.names.lookup x.1 = some .free := by simpa using this
    exact relabel_cf _ _ z
  · have hi : i < fr.length := (List.getElem?_eq_some_iff.mp e2).1
    have := List.all_eq_true.mp h6 i (List.mem_range.mpr hi)
    rw [e1, e2] at this
    simp only [Bool.and_eq_true, Bool.or_eq_true, beq_iff_eq] at this
    exact ⟨this.1.1, this.1.2, relabel_cf _ _ this.2⟩
end L3
namespace L3
open PySem L2
open PySem.Spec hiding items?
open PyProof.Rows hiding St
section
variable {X : Cx}
end
theorem range_mem {n : Nat} {d : D} (h : d ∈ rangeD 0 n) : ∃ i : Nat, i < n ∧ d = .int (i : Int) := by
  unfold rangeD at h
  obtain ⟨i, hi, rfl⟩ := List.mem_map.mp h
  rw [List.mem_range] at hi
  exact ⟨i, hi, by rw [Int.zero_add]⟩
theorem range_map {f : Nat → D} (n : Nat) : (rangeD 0 n).map (fun d => match d with | .int i => f i.toNat | _ => .non) = (List.range n).map f := by
  unfold rangeD
  rw [List.map_map]
  refine List.map_congr_left fun i _ => ?_
  show f ((0 : Int) + (i : Int)).toNat = f i
  have : ((0 : Int) + (i : Int)).toNat = i := by omega
  rw [this]
theorem comp_range {tg : DTg} {te : DE} {σc : DEnv} {st : Store} {K : List D → Store → Prop} (f : Nat → D) (n : Nat) (hx : ∀ i : Nat, i < n → ∀ K', K' (f i) st → ∃ σ2, tg (.int (i : Int)) σc = some σ2 ∧ te σ2 st K') (k : K ((List.range n).map f) st) : compD tg dTrue te (fun _ => True) σc (rangeD 0 n) [] st K := by
  refine comp_map (g := fun d => match d with | .int i => f i.toNat | _ => .non) trivial _ (fun d hd K' q => ?_) (by rw [range_map]; exact k)
  obtain ⟨i, hi, rfl⟩ := range_mem hd
  exact hx i hi K' q
theorem for_range {tg : DTg} {body : DS} {E : DEnds} (n : Nat) (I : Nat → DEnv → Store → Prop) (hend : ∀ σ st, I n σ st → E.nx σ st)
    (hstep : ∀ (j : Nat) σ st (rest : List D), j < n → I j σ st → (∀ σ' st', I (j + 1) σ' st' → forD tg body (fun _ => True) E rest σ' st') → ∃ σ1, tg (.int (j : Int)) σ = some σ1 ∧ body { E with nx := forD tg body (fun _ => True) E rest, ct := forD tg body (fun _ => True) E rest, bk := E.nx } σ1 st)
    {σ : DEnv} {st : Store} (h0 : I 0 σ st) : forD tg body (fun _ => True) E (rangeD 0 n) σ st := by
  refine for_ind (fun rest σ st => ∃ j : Nat, j ≤ n ∧ rest = (List.range (n - j)).map (fun i => D.int (((j + i : Nat) : Int))) ∧ I j σ st) ?_ ?_ _ _ _ ⟨0, Nat.zero_le _, by unfold rangeD; simp, h0⟩
  · rintro σ st ⟨j, hj, hr, hI⟩
    have : n - j = 0 := by
      cases q : n - j with
      | zero => rfl
      | succ m => rw [q, List.range_succ_eq_map] at hr; cases hr
    have hjn : j = n := by omega
    subst hjn
    exact ⟨trivial, hend σ st hI⟩
  · rintro d rest σ st ⟨j, hj, hr, hI⟩ next
    cases q : n - j with
    | zero => rw [q] at hr; cases hr
    | succ m =>
      rw [q, List.range_succ_eq_map, List.map_cons, List.map_map] at hr
      simp only [List.cons.injEq] at hr
      obtain ⟨rfl, hrest⟩ := hr
      refine ⟨trivial, hstep j σ st rest (by omega) hI fun σ' st' h' => next σ' st' ⟨j + 1, by omega, ?_, h'⟩⟩
      have : n - (j + 1) = m := by omega
      rw [this, hrest]
      refine List.map_congr_left fun i _ => ?_
      show D.int (((j + (i + 1) : Nat) : Int)) = D.int (((j + 1 + i : Nat) : Int))
      congr 2; omega
end L3
namespace L3
open PySem L2
open PySem.Spec hiding items?
open PyProof.Rows hiding St
section
variable {X : Cx}
end
abbrev DT2 := D → DEnv → Store → (DEnv → Store → Prop) → Prop
def LG2 (t : DT2) : TG := fun v σ H Q => ∃ α σd st d K G F, Spl G F H ∧ RelS α G σd σ ∧ StRel α st G ∧ Rep α G d v ∧ t d σd st K ∧ LC α G F K Q
def tgSub (to ti : DE) : DT2 := fun d σ st K => to σ st fun x st1 => ti σ st1 fun y st2 => xSet x y d st2 fun st3 => K σ st3
section
variable {X : Cx} {pos : Pos}
theorem dg_sub {tg : Expr} {to ti : DE} (h : PG X tg (gSub (LE to) (LE ti) rSetL)) : PG X tg (LG2 (tgSub to ti)) := PG.imp h fun v σ H Q ⟨α, σd, st, d, K, G, F, P, R, S, r, q, k⟩ => by
  unfold tgSub xSet at q
  refine ⟨α, σd, st, _, G, F, P, R, S, q, fun x st2 q2 α2 G2 H2 v2 s2 P2 S2 r2 => ?_⟩
  refine ⟨α2, σd, st2, _, G2, F, P2, R.step s2, S2, q2, fun y st3 q3 α3 G3 H3 v3 s3 P3 S3 r3 => ?_⟩
  cases x <;> cases y <;> try exact q3.elim
  rename_i n kk
  unfold setR at q3
  simp only at q3
  split at q3
  · rename_i xs e
    split at q3
    · rename_i j ej
      obtain ⟨p, ep, vs, hv, rv⟩ := S3.lstAt e
      have r2' := rep_at ep (r2.step s3)
      subst r2'
      unfold Rep at r3
      have hm : some p ∈ α3 := List.mem_of_getElem? ep
      have rd := (r.step s2).step s3
      refine ⟨p, vs, kk, j, rfl, r3, P3.get hv, by rw [← rv.length]; exact ej, ?_⟩
      refine ((k.at s2).at s3) σd _ q3 α3 (upd G3 p (.lst (vs.set j v))) _ σ (Step.write hm) (P3.write hv) (((R.step s2).step s3).step (Step.write hm)) ?_
      exact S3.write ep ⟨vs.set j v, upd_same, (reps_paired.mpr (paired_set rd j (reps_paired.mp rv))).step (Step.write hm)⟩
    · exact q3.elim
  · exact q3.elim
def tgPair (t u : DT2) : DT2 := fun d σ st K => match d with | .tup [x, y] => t x σ st fun σ1 st1 => u y σ1 st1 K | _ => False
theorem dg_pair {a b : Expr} {kx : Nat} {t u : DT2} (hc : X.calm = true) (ha : PG X a (LG2 t)) (hb : PG X b (LG2 u)) (hn : (assignEach [a, b] X.env).length = 2) (hst : (assignEach [a, b] X.env).findIdx? (·.1) = none) (hs1 : PGs X [a, b] (gCons (LG2 t) (gCons (LG2 u) gNil))) :
    PG X (.Tuple [a, b] kx pos) (LG2 (tgPair t u)) := PG.imp (pg_tup hc hs1 hn hst) fun v σ H Q ⟨α, σd, st, d, K, G, F, P, R, S, r, q, k⟩ => by
  unfold tgPair at q
  split at q
  · rename_i x y
    unfold Rep at r
    obtain ⟨p, vs, rfl, na, h1, h2⟩ := r
    obtain ⟨v1, v2, rfl, r1, r2⟩ := reps2 h2 rfl
    refine ⟨p, _, rfl, .of (P.get h1), rfl, v1, _, rfl, α, σd, st, x, _, G, F, P, R, S, r1, q, fun σ1 st1 q1 α1 G1 H1 σ1' s1 P1 R1 S1 => ?_⟩
    refine ⟨v2, _, rfl, α1, σ1, st1, y, _, G1, F, P1, R1, S1, r2.step s1, q1, fun σ2 st2 q2 α2 G2 H2 σ2' s2 P2 R2 S2 => ?_⟩
    exact ⟨rfl, ((k.at s1).at s2).here P2 q2 R2 S2⟩
  · exact q.elim
def dAsg2 (t : DT2) (te : DE) : DS := fun E σ st => te σ st fun d st1 => t d σ st1 E.nx
theorem ds_asg2 {s : Stmt} {te : DE} {t : DT2} (h : PS X s (tAsg (LE te) (LG2 t))) : PS X s (LS (dAsg2 t te)) := PS.imp h fun D σ H ⟨α, σd, st, DD, G, F, P, R, S, q, k⟩ =>
  ⟨α, σd, st, _, G, F, P, R, S, q, fun d st1 q1 α1 G1 H1 v s1 P1 S1 r1 => ⟨α1, σd, st1, d, DD.nx, G1, F, P1, R.step s1, S1, r1, q1, k.nx.at s1⟩⟩
theorem js_swap {o1 i1 o2 i2 e : Expr} {kx : Nat} {p1 p2 tp : Pos} {to1 ti1 to2 ti2 te : DE} (ho1 : JE X o1 to1) (hi1 : JE X i1 ti1) (ho2 : JE X o2 to2) (hi2 : JE X i2 ti2) (he : JE X e te) (hc : X.calm = true := by rfl)
    (hs : swapsWithSole [.Tuple [.Subscript o1 i1 p1, .Subscript o2 i2 p2] kx tp] e pos.line X.env = pure false := by rfl) (hw : swappedStores [.Tuple [.Subscript o1 i1 p1, .Subscript o2 i2 p2] kx tp] e X.env = pure none := by rfl)
    (h1 : (assignEach [.Tuple [.Subscript o1 i1 p1, .Subscript o2 i2 p2] kx tp] X.env).map (·.2) = [assign (.Tuple [.Subscript o1 i1 p1, .Subscript o2 i2 p2] kx tp) X.env] := by rfl) (hn : (assignEach [.Subscript o1 i1 p1, .Subscript o2 i2 p2] X.env).length = 2 := by rfl) (hst : (assignEach [.Subscript o1 i1 p1, .Subscript o2 i2 p2] X.env).findIdx? (·.1) = none := by rfl)
    (ha1 : ∀ v, assign (.Subscript o1 i1 p1) X.env v = (do
      let ov ← holding [v] (eval o1 X.env)
      let iv ← holding [v, ov] (eval i1 X.env)
      standAt p1
      holding [v, ov, iv] (setItem ov iv v)
      release [v, ov, iv] []) := by intro _; rfl) (ha2 : ∀ v, assign (.Subscript o2 i2 p2) X.env v = (do
      let ov ← holding [v] (eval o2 X.env)
      let iv ← holding [v, ov] (eval i2 X.env)
      standAt p2
      holding [v, ov, iv] (setItem ov iv v)
      release [v, ov, iv] []) := by intro _; rfl) :
    JS X (.Assign [.Tuple [.Subscript o1 i1 p1, .Subscript o2 i2 p2] kx tp] e pos) (dAsg2 (tgPair (tgSub to1 ti1) (tgSub to2 ti2)) te) := by
  unfold JS
  unfold JE at *
  have g1 := dg_sub (pg_sub ho1 hi1 set_list ha1)
  have g2 := dg_sub (pg_sub ho2 hi2 set_list ha2)
  exact ds_asg2 (ps_asg he (dg_pair hc g1 g2 hn hst (pgs_cons g1 (pgs_cons g2 pgs_nil))) hs hw h1)
end
end L3
namespace L3
open PySem L2
open PySem.Spec hiding items?
open PyProof.Rows hiding St
section
variable {X : Cx}
theorem isnot_bool_gen {M : Model} {A : Around} {E : Value → Shared → Prop} {s : Shared} {Q : Value → Shared → Prop} {x : V} {v : Value} {b : Bool} (r : RelV x v) (h : Q (.bool (!(v == .bool b))) s) : wpAny M A (compareOp .IsNot v (.bool b)) Q E s := by
  cases x
  case bl c =>
    cases r
    cases c <;> cases b <;> exact wpAny_pure h
  all_goals first
    | (cases r; exact wpAny_pure h)
    | (obtain ⟨t, rfl⟩ := r; exact wpAny_pure h)
def dIsNotR' : DR2 := fun x y st K => match y with | .non => live st x = true ∧ K (.bl (!isN x)) st | .bl b => live st x = true ∧ K (.bl (!isB x b)) st | _ => False
theorem o_isnot' : OpR X (compareOp .IsNot) (LR dIsNotR') := fun pins s σ H x y v u Q I rx ry ⟨α, d, e, st, K, G, F', P, r1, r2, S, q, k⟩ => by
  cases e <;> try exact q.elim
  · refine o_isnot pins s σ H x y v u Q I rx ry ⟨α, d, .non, st, K, G, F', P, r1, r2, S, ⟨q.1, ?_⟩, k⟩
    have q2 := q.2
    cases d <;> exact q2
  · rename_i b
    unfold Rep at r2
    subst r2
    cases ry
    refine isnot_bool_gen rx ?_
    rw [rel_beq S q.1 r1 rx]
    exact ⟨.bl (!isB d b), H, I, rfl, k.here P q.2 S (by unfold Rep; rfl)⟩
@[irreducible] def xIsNt : DR2 := dIsNotR'
theorem x_isnt : OpR X (compareOp .IsNot) (LR xIsNt) := by unfold xIsNt; exact o_isnot'
end
section
variable {st : Store} {K : DK} {d : D} {b : Bool}
theorem nt_non (h : live st d = true) (k : K (.bl (!isN d)) st) : xIsNt d .non st K := by unfold xIsNt; exact ⟨h, k⟩
end
end L3
namespace L3
open PySem L2
open PySem.Spec hiding items?
open PyProof.Rows hiding St
section
variable {X : Cx}
theorem ps_subC {o i elt : Expr} {gs : List Comprehension} {sc : Scope} {p : Pos} {to ti te : TE} {pos pos' : Pos} (he : PE X (.ListComp elt gs sc p) te) (ho : PE X o to) (hi : PE X i ti) (h2 : notSlice i = true := by rfl) : PS X (.Assign [.Subscript o i pos'] (.ListComp elt gs sc p) pos) (tAsg te (gSub to ti rSetL)) :=
  ps_asg he (pg_sub ho hi set_list (by intro v; cases i <;> first | rfl | cases h2)) (by unfold swapsWithSole swapsWith; rfl) rfl rfl
theorem js_setIxC {o i elt : Expr} {gs : List Comprehension} {sc : Scope} {p pos pos' : Pos} {te to ti : DE} (he : JE X (.ListComp elt gs sc p) te) (ho : JE X o to) (hi : JE X i ti) (h2 : notSlice i = true := by rfl) : JS X (.Assign [.Subscript o i pos'] (.ListComp elt gs sc p) pos) (xSetIx to ti te) := by
  unfold JS; unfold JE at *; exact xs_setIx (ps_subC he ho hi h2)
end
end L3
namespace L3
open PySem L2
open PySem.Spec hiding items?
open PyProof.Rows hiding St
open AutoSeq1 (wpAny_loadPart')
end L3
namespace L3
open PySem L2
open PySem.Spec hiding items?
open PyProof.Rows hiding St
section
variable {prog : Program} {w : World} {A : Around} {E : Value → Shared → Prop} {s : Shared}
end
section
variable {X : Cx} {tg : Expr}
end
end L3
namespace L3
open PySem L2
open PySem.Spec hiding items?
open PyProof.Rows hiding St
section
variable {X : Cx}
end
end L3
namespace L3
open PySem L2
open PySem.Spec hiding items?
open PyProof.Rows hiding St
section
variable {X : Cx}
end
end L3
namespace L3
open PySem L2
open PySem.Spec hiding items?
open PyProof.Rows hiding St
open PySem PySem.Spec L2 PySem.SeqAt
section
variable {X : Cx}
end
end L3
namespace L3
open PySem L2
open PySem.Spec hiding items?
open PyProof.Rows hiding St
section
variable {X : Cx}
end
end L3
namespace L3
open PySem L2
open PySem.Spec hiding items?
open PyProof.Rows hiding St
section
variable {X : Cx}
end
section
variable {X : Cx}
end
end L3
namespace L3
open PySem L2
open PySem.Spec hiding items?
open PyProof.Rows hiding St
section
variable {X : Cx}
end
end L3
namespace L3
open PySem L2
open PySem.Spec hiding items?
open PyProof.Rows hiding St
theorem ints_are : ∀ {ns : List Int} {us : List Value}, Vals (ns.map V.int) us → IntsAre us ns
  | [], _, .nil => .nil
  | n :: ns, _, .cons h t => by
    obtain ⟨tk, rfl⟩ := h
    exact .cons n tk (ints_are t)
section
variable {X : Cx}
def dNotIn : DR2 := fun x y st K => match x, y with
  | .int k, .tup xs => (match ints? xs with | some ns => K (.bl (!(ns.any (· == k)))) st | none => False)
  | _, _ => False
theorem o_notin : OpR X (compareOp .NotIn) (LR dNotIn) := fun pins s σ H x y v u Q I rx ry ⟨α, d, e, st, K, G, F', P, r1, r2, S, q, kk⟩ => by
  unfold dNotIn at q
  split at q
  · rename_i k xs
    split at q
    · rename_i ns en
      unfold Rep at r1
      subst r1
      obtain ⟨t, rfl⟩ := rx
      obtain ⟨b, ws, jts, rfl, r2', v2, l2⟩ := tup_is I (r2.mono P.same) ry
      have hw := ints_reps r2' en
      subst hw
      have hi := ints_are v2
      refine SeqAt.notIn_tupleAt (isInt k) l2 (fun y hy => (eq_isInt k t hi y (by simpa using hy)).at _ _) ?_
      rw [← Array.any_toList, show jts.toArray.toList = jts from rfl, any_isInt k hi]
      exact ⟨.bl _, H, I, rfl, kk.here P q S (by unfold Rep; rfl)⟩
    · exact q.elim
  · exact q.elim
@[irreducible] def xNotIn : DR2 := dNotIn
theorem x_notin : OpR X (compareOp .NotIn) (LR xNotIn) := by unfold xNotIn; exact o_notin
end
theorem st_notin {st : Store} {K : DK} {k : Int} {xs : List D} {ns : List Int} (h : ints? xs = some ns) (q : K (.bl (!(ns.any (· == k)))) st) : xNotIn (.int k) (.tup xs) st K := by unfold xNotIn dNotIn; simp only [h]; exact q
end L3
namespace Mx
def S : Nat → (Nat → Int) → Int
  | 0, _ => 0
  | n + 1, f => S n f + f n
theorem S_congr {n : Nat} {f g : Nat → Int} (h : ∀ i, i < n → f i = g i) : S n f = S n g := by
  induction n with
  | zero => rfl
  | succ n ih => unfold S; rw [ih fun i hi => h i (by omega), h n (by omega)]
theorem S_zero {n : Nat} {f : Nat → Int} (h : ∀ i, i < n → f i = 0) : S n f = 0 := by
  induction n with
  | zero => rfl
  | succ n ih => unfold S; rw [ih fun i hi => h i (by omega), h n (by omega)]; rfl
theorem S_add (n : Nat) (f g : Nat → Int) : S n (fun i => f i + g i) = S n f + S n g := by
  induction n with
  | zero => rfl
  | succ n ih => unfold S; rw [ih]; dsimp only; omega
theorem S_mul (n : Nat) (c : Int) (f : Nat → Int) : S n (fun i => c * f i) = c * S n f := by
  induction n with
  | zero => unfold S; rw [Int.mul_zero]
  | succ n ih => unfold S; rw [ih, Int.mul_add]
theorem S_neg (n : Nat) (f : Nat → Int) : S n (fun i => - f i) = - S n f := by
  induction n with
  | zero => rfl
  | succ n ih => unfold S; rw [ih]; dsimp only; omega
theorem S_comm (m n : Nat) (f : Nat → Nat → Int) : S m (fun i => S n fun j => f i j) = S n fun j => S m fun i => f i j := by
  induction m with
  | zero => exact (S_zero (n := n) (fun i _ => rfl)).symm
  | succ m ih =>
    have : S n (fun j => S (m + 1) fun i => f i j) = S n fun j => (S m fun i => f i j) + f m j := S_congr fun j _ => rfl
    rw [this, S_add, ← ih]
    rfl
theorem S_one {n : Nat} {k : Nat} (hk : k < n) {f : Nat → Int} (h : ∀ i, i < n → i ≠ k → f i = 0) : S n f = f k := by
  induction n with
  | zero => omega
  | succ n ih =>
    unfold S
    by_cases e : k = n
    · subst e
      rw [S_zero fun i hi => h i (by omega) (by omega), Int.zero_add]
    · rw [ih (by omega) fun i hi hn => h i (by omega) hn, h n (by omega) (by omega), Int.add_zero]
theorem S_head (n : Nat) (f : Nat → Int) : S (n + 1) f = f 0 + S n fun i => f (i + 1) := by
  induction n with
  | zero => unfold S S; omega
  | succ n ih =>
    have : S (n + 1 + 1) f = S (n + 1) f + f (n + 1) := rfl
    rw [this, ih]
    have : S (n + 1) (fun i => f (i + 1)) = S n (fun i => f (i + 1)) + f (n + 1) := rfl
    rw [this]
    omega
def dl (i j : Nat) : Int := if i = j then 1 else 0
theorem dl_self (i : Nat) : dl i i = 1 := if_pos rfl
theorem dl_ne {i j : Nat} (h : i ≠ j) : dl i j = 0 := if_neg h
theorem S_dl_l {n k : Nat} (hk : k < n) (f : Nat → Int) : S n (fun i => dl k i * f i) = f k := by
  rw [S_one hk (fun i _ h => by rw [dl_ne (Ne.symm h), Int.zero_mul]), dl_self, Int.one_mul]
theorem S_dl_r {n k : Nat} (hk : k < n) (f : Nat → Int) : S n (fun i => f i * dl i k) = f k := by
  rw [S_one hk (fun i _ h => by rw [dl_ne h, Int.mul_zero]), dl_self, Int.mul_one]
abbrev Row := List Int
abbrev Rows := List (List Int)
def g (A : Rows) (i j : Nat) : Int := (A.getD i []).getD j 0
structure IsM (m n : Nat) (A : Rows) : Prop where
  len : A.length = m
  wid : ∀ r ∈ A, r.length = n
theorem getD_lt {α : Type} {l : List α} {i : Nat} {d : α} (h : i < l.length) : l.getD i d = l[i] := by
  rw [List.getD_eq_getElem?_getD, List.getElem?_eq_getElem h]; rfl
theorem getD_ge {α : Type} {l : List α} {i : Nat} {d : α} (h : l.length ≤ i) : l.getD i d = d := by
  rw [List.getD_eq_getElem?_getD, List.getElem?_eq_none h]; rfl
theorem row_ext {a b : Row} {n : Nat} (ha : a.length = n) (hb : b.length = n) (h : ∀ j, j < n → a.getD j 0 = b.getD j 0) : a = b := by
  refine List.ext_getElem (by omega) fun i h1 h2 => ?_
  have := h i (by omega)
  rwa [getD_lt h1, getD_lt h2] at this
theorem IsM.row {m n : Nat} {A : Rows} (h : IsM m n A) {i : Nat} (hi : i < m) : (A.getD i []).length = n := by
  have hl := h.len
  rw [getD_lt (by omega)]
  exact h.wid _ (List.getElem_mem _)
theorem IsM.ext {m n : Nat} {A B : Rows} (ha : IsM m n A) (hb : IsM m n B) (h : ∀ i j, i < m → j < n → g A i j = g B i j) : A = B := by
  have h1 := ha.len
  have h2 := hb.len
  refine List.ext_getElem (by omega) fun i hi hj => ?_
  have e1 := ha.row (i := i) (by omega)
  have e2 := hb.row (i := i) (by omega)
  have := row_ext e1 e2 fun j hj => h i j (by omega) hj
  rwa [getD_lt hi, getD_lt hj] at this
def addM (r : Row) (t : Int) (s : Row) : Row := List.zipWith (fun a b => a + t * b) r s
theorem addM_len {r s : Row} {t : Int} (h : r.length = s.length) : (addM r t s).length = r.length := by unfold addM; simp [h]
theorem addM_at {r s : Row} {t : Int} (h : r.length = s.length) (j : Nat) : (addM r t s).getD j 0 = r.getD j 0 + t * s.getD j 0 := by
  unfold addM
  by_cases hj : j < r.length
  · rw [getD_lt (by simp; omega), getD_lt hj, getD_lt (by omega)]; simp
  · rw [getD_ge (by simp; omega), getD_ge (by omega), getD_ge (by omega)]; simp
def sumBy : Row → Rows → Row → Row
  | w :: ws, r :: rs, acc => sumBy ws rs (addM acc w r)
  | _, _, acc => acc
theorem sumBy_len {n : Nat} : ∀ {ws : Row} {rs : Rows} {acc : Row}, acc.length = n → (∀ r ∈ rs, r.length = n) → (sumBy ws rs acc).length = n
  | [], _, acc, h, _ => by unfold sumBy; exact h
  | _ :: _, [], acc, h, _ => by unfold sumBy; exact h
  | w :: ws, r :: rs, acc, h, hr => by
    unfold sumBy
    refine sumBy_len ?_ fun r hr' => hr r (List.mem_cons_of_mem _ hr')
    rw [addM_len (by rw [h, hr r List.mem_cons_self]), h]
theorem sumBy_at {n : Nat} : ∀ {ws : Row} {rs : Rows} {acc : Row} (j : Nat), acc.length = n → (∀ r ∈ rs, r.length = n) → ws.length = rs.length → (sumBy ws rs acc).getD j 0 = acc.getD j 0 + S rs.length fun k => ws.getD k 0 * g rs k j
  | [], [], acc, j, h, _, _ => by unfold sumBy; show _ = _ + (0 : Int); rw [Int.add_zero]
  | [], _ :: _, acc, j, h, _, hl => by cases hl
  | _ :: _, [], acc, j, h, _, hl => by cases hl
  | w :: ws, r :: rs, acc, j, h, hr, hl => by
    have e1 : acc.length = r.length := by rw [h, hr r List.mem_cons_self]
    unfold sumBy
    rw [sumBy_at j (by rw [addM_len e1, h]) (fun r hr' => hr r (List.mem_cons_of_mem _ hr')) (by simpa using hl), addM_at e1, List.length_cons, S_head]
    have : (fun k => (w :: ws).getD (k + 1) 0 * g (r :: rs) (k + 1) j) = fun k => ws.getD k 0 * g rs k j := by
      funext k; unfold g; simp
    rw [this]
    unfold g
    simp
    omega
def mulM (A B : Rows) (n : Nat) : Rows := A.map fun w => sumBy w B (List.replicate n 0)
theorem rep_at (n j : Nat) : (List.replicate n (0 : Int)).getD j 0 = 0 := by
  by_cases h : j < n
  · rw [getD_lt (by simpa using h)]; simp
  · rw [getD_ge (by simp; omega)]
theorem mulM_is {m p n : Nat} {A B : Rows} (ha : IsM m p A) (hb : IsM p n B) : IsM m n (mulM A B n) := by
  refine ⟨by unfold mulM; rw [List.length_map]; exact ha.len, fun r hr => ?_⟩
  unfold mulM at hr
  obtain ⟨w, _, rfl⟩ := List.mem_map.mp hr
  exact sumBy_len (by simp) hb.wid
theorem map_getD {α : Type} {f : Row → List α} {A : Rows} {i : Nat} (h : i < A.length) : (A.map f).getD i [] = f (A.getD i []) := by
  rw [getD_lt (by simpa using h), getD_lt h]; simp
theorem mulM_at {m p n : Nat} {A B : Rows} (ha : IsM m p A) (hb : IsM p n B) {i : Nat} (hi : i < m) (j : Nat) : g (mulM A B n) i j = S p fun k => g A i k * g B k j := by
  have hl := ha.len
  show ((mulM A B n).getD i []).getD j 0 = _
  unfold mulM
  rw [map_getD (by omega), sumBy_at (n := n) j (by simp) hb.wid (by rw [ha.row hi, hb.len]), rep_at, Int.zero_add, hb.len]
  rfl
def unitRow (n i : Nat) : Row := (List.range n).map fun k => dl k i
def units (n : Nat) : Rows := (List.range n).map fun i => unitRow n i
theorem range_getD {α : Type} {f : Nat → α} {n i : Nat} {d : α} (h : i < n) : ((List.range n).map f).getD i d = f i := by
  rw [getD_lt (by simpa using h)]; simp
theorem units_is (n : Nat) : IsM n n (units n) := ⟨by simp [units], fun r hr => by unfold units at hr; obtain ⟨i, _, rfl⟩ := List.mem_map.mp hr; simp [unitRow]⟩
theorem units_at {n i j : Nat} (hi : i < n) (hj : j < n) : g (units n) i j = dl i j := by
  unfold g units unitRow
  rw [range_getD hi, range_getD hj]
  unfold dl
  by_cases h : i = j
  · subst h; rfl
  · rw [if_neg (Ne.symm h), if_neg h]
def colM (A : Rows) (j : Nat) : Row := A.map fun r => r.getD j 0
def trM (A : Rows) (n : Nat) : Rows := (List.range n).map fun j => colM A j
theorem trM_is {m n : Nat} {A : Rows} (ha : IsM m n A) : IsM n m (trM A n) := ⟨by simp [trM], fun r hr => by
  unfold trM at hr
  obtain ⟨j, _, rfl⟩ := List.mem_map.mp hr
  unfold colM
  rw [List.length_map, ha.len]⟩
theorem colM_at {A : Rows} {i : Nat} (j : Nat) (h : i < A.length) : (colM A j).getD i 0 = g A i j := by
  unfold colM g
  rw [getD_lt (by simpa using h), getD_lt h]; simp
theorem trM_at {m n : Nat} {A : Rows} (ha : IsM m n A) {i j : Nat} (hi : i < m) (hj : j < n) : g (trM A n) j i = g A i j := by
  show ((trM A n).getD j []).getD i 0 = _
  unfold trM
  rw [range_getD hj, colM_at j (by rw [ha.len]; exact hi)]
end Mx
namespace Mx
structure TB (n : Nat) (T B : Rows) : Prop where
  t : IsM n n T
  b : IsM n n B
  tb : ∀ i j, i < n → j < n → S n (fun k => g T i k * g B k j) = dl i j
  bt : ∀ i j, i < n → j < n → S n (fun k => g B i k * g T k j) = dl i j
theorem TB.mul {n : Nat} {T B : Rows} (h : TB n T B) : mulM T B n = units n ∧ mulM B T n = units n := by
  refine ⟨(mulM_is h.t h.b).ext (units_is n) fun i j hi hj => ?_, (mulM_is h.b h.t).ext (units_is n) fun i j hi hj => ?_⟩
  · rw [mulM_at h.t h.b hi, h.tb i j hi hj, units_at hi hj]
  · rw [mulM_at h.b h.t hi, h.bt i j hi hj, units_at hi hj]
theorem dl_comm (i j : Nat) : dl i j = dl j i := by
  unfold dl
  by_cases h : i = j
  · rw [if_pos h, if_pos h.symm]
  · rw [if_neg h, if_neg (Ne.symm h)]
theorem TB.units (n : Nat) : TB n (units n) (units n) where
  t := units_is n
  b := units_is n
  tb := fun i j hi hj => by
    have : S n (fun k => g (Mx.units n) i k * g (Mx.units n) k j) = S n fun k => dl i k * dl k j := S_congr fun k hk => by rw [units_at hi hk, units_at hk hj]
    rw [this, S_dl_l hi]
  bt := fun i j hi hj => by
    have : S n (fun k => g (Mx.units n) i k * g (Mx.units n) k j) = S n fun k => dl i k * dl k j := S_congr fun k hk => by rw [units_at hi hk, units_at hk hj]
    rw [this, S_dl_l hi]
theorem TB.neg {n i : Nat} {T B T' B' : Rows} (h : TB n T B) (ht : IsM n n T') (hb : IsM n n B') (et : ∀ a k, a < n → k < n → g T' a k = (if a = i then -1 else 1) * g T a k) (eb : ∀ k b, k < n → b < n → g B' k b = (if b = i then -1 else 1) * g B k b) : TB n T' B' where
  t := ht
  b := hb
  tb := fun a b ha hb' => by
    have : S n (fun k => g T' a k * g B' k b) = S n fun k => ((if a = i then -1 else 1) * (if b = i then (-1 : Int) else 1)) * (g T a k * g B k b) := S_congr fun k hk => by
      rw [et a k ha hk, eb k b hk hb', Int.mul_assoc, Int.mul_assoc]
      congr 1
      rw [← Int.mul_assoc, ← Int.mul_assoc, Int.mul_comm (g T a k)]
    rw [this, S_mul, h.tb a b ha hb']
    by_cases hab : a = b
    · subst hab
      rw [dl_self]
      split <;> rfl
    · rw [dl_ne hab, Int.mul_zero]
  bt := fun a b ha hb' => by
    have : S n (fun k => g B' a k * g T' k b) = S n fun k => g B a k * g T k b := S_congr fun k hk => by
      rw [et k b hk hb', eb a k ha hk]
      split
      · simp only [Int.neg_mul, Int.one_mul, Int.mul_neg, Int.neg_neg]
      · rw [Int.one_mul, Int.one_mul]
    rw [this, h.bt a b ha hb']
theorem TB.add {n i j : Nat} {c : Int} {T B T' B' : Rows} (h : TB n T B) (hi : i < n) (hj : j < n) (hij : i ≠ j) (ht : IsM n n T') (hb : IsM n n B') (et : ∀ a k, a < n → k < n → g T' a k = g T a k + dl a j * c * g T i k) (eb : ∀ k b, k < n → b < n → g B' k b = g B k b - dl b i * c * g B k j) : TB n T' B' where
  t := ht
  b := hb
  tb := fun a b ha hb' => by
    have : S n (fun k => g T' a k * g B' k b) = S n fun k => g T a k * g B k b + (dl a j * c) * (g T i k * g B k b) + (-(dl b i * c)) * (g T a k * g B k j) + (-(dl a j * c * (dl b i * c))) * (g T i k * g B k j) := S_congr fun k hk => by
      rw [et a k ha hk, eb k b hk hb']
      simp only [Int.add_mul, Int.mul_sub, Int.neg_mul, Int.sub_eq_add_neg, Int.mul_add, Int.mul_neg]
      simp only [Int.mul_assoc, Int.mul_comm, Int.mul_left_comm]
      omega
    rw [this, S_add, S_add, S_add, S_mul, S_mul, S_mul, h.tb a b ha hb', h.tb i b hi hb', h.tb a j ha hj, h.tb i j hi hj, dl_ne hij]
    rw [Int.mul_zero, Int.add_zero, dl_comm i b, dl_comm a j]
    have : dl j a * c * dl b i + -(dl b i * c) * dl j a = 0 := by
      rw [Int.neg_mul, Int.mul_comm (dl b i * c), ← Int.mul_assoc, Int.mul_assoc, Int.mul_assoc, Int.mul_comm c]
      omega
    omega
  bt := fun a b ha hb' => by
    have : S n (fun k => g B' a k * g T' k b) = S n fun k => g B a k * g T k b + (c * g T i b) * (g B a k * dl k j) + (-(c * g B a j)) * (g T k b * dl k i) + (-(c * g B a j * (c * g T i b))) * (dl k i * dl k j) := S_congr fun k hk => by
      rw [et k b hk hb', eb a k ha hk]
      simp only [Int.sub_mul, Int.mul_add, Int.neg_mul, Int.sub_eq_add_neg, Int.add_mul]
      simp only [Int.mul_assoc, Int.mul_comm, Int.mul_left_comm]
      omega
    rw [this, S_add, S_add, S_add, S_mul, S_mul, S_mul, h.bt a b ha hb', S_dl_r hj, S_dl_r hi]
    have e0 : S n (fun k => dl k i * dl k j) = 0 := S_zero fun k _ => by
      by_cases hk : k = i
      · subst hk; rw [dl_ne hij, Int.mul_zero]
      · rw [dl_ne hk, Int.zero_mul]
    rw [e0, Int.mul_zero, Int.add_zero]
    have : c * g T i b * g B a j + -(c * g B a j) * g T i b = 0 := by
      rw [Int.neg_mul, Int.mul_right_comm]
      omega
    omega
def sw (i j k : Nat) : Nat := if k = i then j else if k = j then i else k
theorem S_sw {n i j : Nat} (hi : i < n) (hj : j < n) (hij : i ≠ j) (f : Nat → Int) : S n (fun k => f (sw i j k)) = S n f := by
  have : S n (fun k => f (sw i j k)) = S n fun k => f k + (f j - f i) * dl k i + (f i - f j) * dl k j := S_congr fun k _ => by
    unfold sw
    by_cases h1 : k = i
    · subst h1; rw [if_pos rfl, dl_self, dl_ne hij]; omega
    · rw [if_neg h1, dl_ne h1]
      by_cases h2 : k = j
      · subst h2; rw [if_pos rfl, dl_self]; omega
      · rw [if_neg h2, dl_ne h2]; omega
  rw [this, S_add, S_add, S_dl_r (f := fun _ => f j - f i) hi, S_dl_r (f := fun _ => f i - f j) hj]
  omega
theorem sw_lt {n i j k : Nat} (hi : i < n) (hj : j < n) (hk : k < n) : sw i j k < n := by unfold sw; split; exact hj; split; exact hi; exact hk
theorem sw_sw (i j k : Nat) : sw i j (sw i j k) = k := by
  unfold sw
  by_cases h1 : k = i
  · subst h1
    rw [if_pos rfl]
    by_cases h2 : j = k
    · rw [if_pos h2]; exact h2
    · rw [if_neg h2, if_pos rfl]
  · rw [if_neg h1]
    by_cases h2 : k = j
    · subst h2; rw [if_pos rfl, if_pos rfl]
    · rw [if_neg h2, if_neg h1, if_neg h2]
theorem sw_inj (i j : Nat) {a b : Nat} (h : a ≠ b) : sw i j a ≠ sw i j b := fun e => h (by rw [← sw_sw i j a, e, sw_sw])
theorem TB.swap {n i j : Nat} {T B T' B' : Rows} (h : TB n T B) (hi : i < n) (hj : j < n) (hij : i ≠ j) (ht : IsM n n T') (hb : IsM n n B') (et : ∀ a k, a < n → k < n → g T' a k = g T (sw i j a) k) (eb : ∀ k b, k < n → b < n → g B' k b = g B k (sw i j b)) : TB n T' B' where
  t := ht
  b := hb
  tb := fun a b ha hb' => by
    have : S n (fun k => g T' a k * g B' k b) = S n fun k => g T (sw i j a) k * g B k (sw i j b) := S_congr fun k hk => by rw [et a k ha hk, eb k b hk hb']
    rw [this, h.tb _ _ (sw_lt hi hj ha) (sw_lt hi hj hb')]
    by_cases hab : a = b
    · subst hab; rw [dl_self, dl_self]
    · rw [dl_ne hab, dl_ne]
      exact sw_inj i j hab
  bt := fun a b ha hb' => by
    have : S n (fun k => g B' a k * g T' k b) = S n fun k => (fun k => g B a k * g T k b) (sw i j k) := S_congr fun k hk => by rw [et k b hk hb', eb a k ha hk]
    rw [this, S_sw hi hj hij (fun k => g B a k * g T k b), h.bt a b ha hb']
theorem set_at {A : Rows} {i : Nat} {r : Row} (hi : i < A.length) (a k : Nat) : g (A.set i r) a k = if a = i then r.getD k 0 else g A a k := by
  have e : (A.set i r).getD a [] = if a = i then r else A.getD a [] := by
    rw [List.getD_eq_getElem?_getD, List.getD_eq_getElem?_getD]
    by_cases h : a = i
    · subst h
      rw [if_pos rfl, List.getElem?_set_self hi]; rfl
    · rw [if_neg h, List.getElem?_set_ne (Ne.symm h)]
  unfold g
  rw [e]
  by_cases h : a = i
  · rw [if_pos h, if_pos h]
  · rw [if_neg h, if_neg h]
theorem set_is {m n i : Nat} {A : Rows} {r : Row} (h : IsM m n A) (hr : r.length = n) : IsM m n (A.set i r) := ⟨by rw [List.length_set]; exact h.len, fun q hq => by
  rcases List.mem_or_eq_of_mem_set hq with z | rfl
  · exact h.wid q z
  · exact hr⟩
theorem mapr_is {m n : Nat} {A : Rows} {f : Row → Row} (h : IsM m n A) (hf : ∀ r, r.length = n → (f r).length = n) : IsM m n (A.map f) := ⟨by rw [List.length_map]; exact h.len, fun q hq => by
  obtain ⟨r, hr, rfl⟩ := List.mem_map.mp hq
  exact hf r (h.wid r hr)⟩
theorem mapr_at {m n : Nat} {A : Rows} {f : Row → Row} (h : IsM m n A) {k : Nat} (hk : k < m) (b : Nat) : g (A.map f) k b = (f (A.getD k [])).getD b 0 := by
  have := h.len
  unfold g
  rw [map_getD (by omega)]
theorem setr_at {r : Row} {i : Nat} {x : Int} (hi : i < r.length) (b : Nat) : (r.set i x).getD b 0 = if b = i then x else r.getD b 0 := by
  rw [List.getD_eq_getElem?_getD, List.getD_eq_getElem?_getD (l := r)]
  by_cases h : b = i
  · subst h
    rw [if_pos rfl, List.getElem?_set_self hi]; rfl
  · rw [if_neg h, List.getElem?_set_ne (Ne.symm h)]
theorem neg_at (r : Row) (k : Nat) : (r.map fun x => -x).getD k 0 = - r.getD k 0 := by
  by_cases h : k < r.length
  · rw [getD_lt (by simpa using h), getD_lt h]; simp
  · rw [getD_ge (by simpa using Nat.le_of_not_lt h), getD_ge (Nat.le_of_not_lt h)]; rfl
def negR (T : Rows) (i : Nat) : Rows := T.set i ((T.getD i []).map fun x => -x)
def negC (i : Nat) (r : Row) : Row := r.set i (- r.getD i 0)
def addR (T : Rows) (j : Nat) (c : Int) (i : Nat) : Rows := T.set j (addM (T.getD j []) c (T.getD i []))
def subC (i : Nat) (c : Int) (j : Nat) (r : Row) : Row := r.set i (r.getD i 0 - c * r.getD j 0)
def swR (T : Rows) (i j : Nat) : Rows := (T.set i (T.getD j [])).set j (T.getD i [])
def swC (i j : Nat) (r : Row) : Row := (r.set i (r.getD j 0)).set j (r.getD i 0)
theorem TB.negL {n i : Nat} {T B : Rows} (h : TB n T B) (hi : i < n) : TB n (negR T i) (B.map (negC i)) := by
  have hr := h.t.row hi
  have lt := h.t.len
  refine h.neg (i := i) (set_is h.t (by simpa using hr)) (mapr_is h.b fun r e => by unfold negC; rw [List.length_set]; exact e) (fun a k ha hk => ?_) fun k b hk hb => ?_
  · unfold negR
    rw [set_at (by omega)]
    split
    · rename_i e; subst e; rw [neg_at, Int.neg_mul, Int.one_mul]; rfl
    · rw [Int.one_mul]
  · rw [mapr_at h.b hk]
    unfold negC
    rw [setr_at (by rw [h.b.row hk]; exact hi)]
    split
    · rename_i e; subst e; rw [Int.neg_mul, Int.one_mul]; rfl
    · rw [Int.one_mul]; rfl
theorem TB.addL {n i j : Nat} {c : Int} {T B : Rows} (h : TB n T B) (hi : i < n) (hj : j < n) (hij : i ≠ j) : TB n (addR T j c i) (B.map (subC i c j)) := by
  have hr := h.t.row hi
  have hrj := h.t.row hj
  have lt := h.t.len
  refine h.add (c := c) hi hj hij (set_is h.t (by rw [addM_len (by omega)]; exact hrj)) (mapr_is h.b fun r e => by unfold subC; rw [List.length_set]; exact e) (fun a k ha hk => ?_) fun k b hk hb => ?_
  · unfold addR
    rw [set_at (by omega)]
    split
    · rename_i e; subst e; rw [addM_at (by omega), dl_self, Int.one_mul]; rfl
    · rename_i e; rw [dl_ne e]; simp
  · rw [mapr_at h.b hk]
    unfold subC
    rw [setr_at (by rw [h.b.row hk]; exact hi)]
    split
    · rename_i e; subst e; rw [dl_self, Int.one_mul]; rfl
    · rename_i e; rw [dl_ne e]; simp; rfl
theorem TB.swapL {n i j : Nat} {T B : Rows} (h : TB n T B) (hi : i < n) (hj : j < n) : TB n (swR T i j) (B.map (swC i j)) := by
  have hr := h.t.row hi
  have hrj := h.t.row hj
  have lt := h.t.len
  have is1 : IsM n n (swR T i j) := set_is (set_is h.t hrj) hr
  have is2 : IsM n n (B.map (swC i j)) := mapr_is h.b fun r e => by unfold swC; rw [List.length_set, List.length_set]; exact e
  have et : ∀ a k, a < n → k < n → g (swR T i j) a k = g T (sw i j a) k := fun a k ha hk => by
    unfold swR sw
    rw [set_at (by rw [List.length_set]; omega), set_at (by omega)]
    by_cases h1 : a = j
    · subst h1
      rw [if_pos rfl]
      by_cases h2 : a = i
      · subst h2; rw [if_pos rfl]; rfl
      · rw [if_neg h2, if_pos rfl]; rfl
    · rw [if_neg h1, if_neg h1]
      split <;> rfl
  have eb : ∀ k b, k < n → b < n → g (B.map (swC i j)) k b = g B k (sw i j b) := fun k b hk hb => by
    rw [mapr_at h.b hk]
    unfold swC sw
    have hl := h.b.row hk
    rw [setr_at (by rw [List.length_set, hl]; exact hj), setr_at (by rw [hl]; exact hi)]
    by_cases h1 : b = j
    · subst h1
      rw [if_pos rfl]
      by_cases h2 : b = i
      · subst h2; rw [if_pos rfl]; rfl
      · rw [if_neg h2, if_pos rfl]; rfl
    · rw [if_neg h1, if_neg h1]
      split <;> rfl
  by_cases hij : i = j
  · subst hij
    have e0 : ∀ k, sw i i k = k := fun k => by
                                           unfold sw
                                           by_cases h : k = i
                                           · rw [if_pos h]; exact h.symm
                                           · rw [if_neg h, if_neg h]
    refine ⟨is1, is2, fun a b ha hb => ?_, fun a b ha hb => ?_⟩
    · rw [← h.tb a b ha hb]
      exact S_congr fun k hk => by rw [et a k ha hk, eb k b hk hb, e0, e0]
    · rw [← h.bt a b ha hb]
      exact S_congr fun k hk => by rw [et k b hk hb, eb a k ha hk, e0]
  · exact h.swap hi hj hij is1 is2 et eb
def Bd (M : Nat) (A : Rows) : Prop := ∀ r ∈ A, ∀ x ∈ r, x.natAbs ≤ M
theorem Bd.mono {M N : Nat} {A : Rows} (h : Bd M A) (hm : M ≤ N) : Bd N A := fun r hr x hx => Nat.le_trans (h r hr x hx) hm
theorem Bd.row {M : Nat} {A : Rows} (h : Bd M A) {i : Nat} : ∀ x ∈ A.getD i [], x.natAbs ≤ M := fun x hx => by
  by_cases hi : i < A.length
  · rw [getD_lt hi] at hx; exact h _ (List.getElem_mem _) x hx
  · rw [getD_ge (Nat.le_of_not_lt hi)] at hx; simp at hx
theorem row_get {M : Nat} {r : Row} (h : ∀ x ∈ r, x.natAbs ≤ M) (k : Nat) : (r.getD k 0).natAbs ≤ M := by
  by_cases hk : k < r.length
  · rw [getD_lt hk]; exact h _ (List.getElem_mem _)
  · rw [getD_ge (Nat.le_of_not_lt hk)]; exact Nat.zero_le _
theorem Bd.set {M : Nat} {A : Rows} {i : Nat} {r : Row} (h : Bd M A) (hr : ∀ x ∈ r, x.natAbs ≤ M) : Bd M (A.set i r) := fun q hq x hx => by
  rcases List.mem_or_eq_of_mem_set hq with z | rfl
  · exact h q z x hx
  · exact hr x hx
theorem rset_bd {M : Nat} {r : Row} {i : Nat} {y : Int} (h : ∀ x ∈ r, x.natAbs ≤ M) (hy : y.natAbs ≤ M) : ∀ x ∈ r.set i y, x.natAbs ≤ M := fun x hx => by
  rcases List.mem_or_eq_of_mem_set hx with z | rfl
  · exact h x z
  · exact hy
theorem Bd.map {M N : Nat} {A : Rows} {f : Row → Row} (h : Bd M A) (hf : ∀ r, (∀ x ∈ r, x.natAbs ≤ M) → ∀ x ∈ f r, x.natAbs ≤ N) : Bd N (A.map f) := fun q hq => by
  obtain ⟨r, hr, rfl⟩ := List.mem_map.mp hq
  exact hf r (h r hr)
theorem addM_bd {M : Nat} {r s : Row} {c : Int} (hr : ∀ x ∈ r, x.natAbs ≤ M) (hs : ∀ x ∈ s, x.natAbs ≤ M) (hc : c.natAbs ≤ 2) : ∀ x ∈ addM r c s, x.natAbs ≤ 3 * M := fun x hx => by
  unfold addM at hx
  obtain ⟨k, hk, e⟩ := List.mem_iff_getElem.mp hx
  rw [List.getElem_zipWith] at e
  subst e
  have h1 := hr _ (List.getElem_mem (by simp at hk; omega : k < r.length))
  have h2 := hs _ (List.getElem_mem (by simp at hk; omega : k < s.length))
  have h3 : (c * s[k]'(by simp at hk; omega)).natAbs ≤ 2 * M := by rw [Int.natAbs_mul]; exact Nat.mul_le_mul hc h2
  omega
theorem subC_bd {M : Nat} {r : Row} {c : Int} {i j : Nat} (hr : ∀ x ∈ r, x.natAbs ≤ M) (hc : c.natAbs ≤ 2) : ∀ x ∈ subC i c j r, x.natAbs ≤ 3 * M := by
  unfold subC
  refine rset_bd (fun x hx => Nat.le_trans (hr x hx) (by omega)) ?_
  have h1 := row_get hr i
  have h2 := row_get hr j
  have h3 : (c * r.getD j 0).natAbs ≤ 2 * M := by rw [Int.natAbs_mul]; exact Nat.mul_le_mul hc h2
  omega
theorem Bd.units (n : Nat) : Bd 1 (units n) := fun r hr x hx => by
  unfold Mx.units at hr
  obtain ⟨i, _, rfl⟩ := List.mem_map.mp hr
  unfold unitRow at hx
  obtain ⟨j, _, rfl⟩ := List.mem_map.mp hx
  unfold dl
  split <;> decide
end Mx
namespace Mx
abbrev Fn := Nat → Nat → Int
def sk (j c : Nat) : Nat := if c < j then c else c + 1
def sg (j : Nat) : Int := if j % 2 = 0 then 1 else -1
theorem sg_succ (j : Nat) : sg (j + 1) = - sg j := by unfold sg; split <;> split <;> omega
theorem sg_zero : sg 0 = 1 := rfl
theorem sk_lt {j c n : Nat} (h : c < n) : sk j c < n + 1 := by unfold sk; split <;> omega
theorem sk_sk {j k c : Nat} (h : k < j) : sk j (sk k c) = sk k (sk (j - 1) c) := by unfold sk; grind
def D : Nat → Fn → Int
  | 0, _ => 1
  | n + 1, M => S (n + 1) fun j => sg j * M 0 j * D n fun r c => M (r + 1) (sk j c)
theorem D_zero (M : Fn) : D 0 M = 1 := rfl
theorem D_succ (n : Nat) (M : Fn) : D (n + 1) M = S (n + 1) fun j => sg j * M 0 j * D n fun r c => M (r + 1) (sk j c) := rfl
theorem D_congr : ∀ {n : Nat} {M M' : Fn}, (∀ r c, r < n → c < n → M r c = M' r c) → D n M = D n M'
  | 0, _, _, _ => rfl
  | n + 1, M, M', h => by
    rw [D_succ, D_succ]
    refine S_congr fun j hj => ?_
    have e : D n (fun r c => M (r + 1) (sk j c)) = D n (fun r c => M' (r + 1) (sk j c)) := D_congr fun r c hr hc => h (r + 1) (sk j c) (by omega) (sk_lt hc)
    rw [h 0 j (by omega) hj, e]
theorem D_lin : ∀ {n : Nat} {M P Q : Fn} {a b : Int} {i : Nat}, i < n → (∀ c, c < n → M i c = a * P i c + b * Q i c) → (∀ r c, r < n → c < n → r ≠ i → M r c = P r c ∧ M r c = Q r c) → D n M = a * D n P + b * D n Q
  | 0, _, _, _, _, _, _, h, _, _ => by omega
  | n + 1, M, P, Q, a, b, 0, _, h0, h => by
    rw [D_succ, D_succ, D_succ, ← S_mul, ← S_mul, ← S_add]
    refine S_congr fun j hj => ?_
    have e1 : D n (fun r c => M (r + 1) (sk j c)) = D n (fun r c => P (r + 1) (sk j c)) := D_congr fun r c hr hc => (h (r + 1) (sk j c) (by omega) (sk_lt hc) (by omega)).1
    have e2 : D n (fun r c => M (r + 1) (sk j c)) = D n (fun r c => Q (r + 1) (sk j c)) := D_congr fun r c hr hc => (h (r + 1) (sk j c) (by omega) (sk_lt hc) (by omega)).2
    rw [h0 j hj, ← e1, ← e2]
    grind
  | n + 1, M, P, Q, a, b, i + 1, hi, h0, h => by
    rw [D_succ, D_succ, D_succ, ← S_mul, ← S_mul, ← S_add]
    refine S_congr fun j hj => ?_
    have e := D_lin (n := n) (M := fun r c => M (r + 1) (sk j c)) (P := fun r c => P (r + 1) (sk j c)) (Q := fun r c => Q (r + 1) (sk j c)) (a := a) (b := b) (i := i) (by omega) (fun c hc => h0 (sk j c) (sk_lt hc)) fun r c hr hc hne => h (r + 1) (sk j c) (by omega) (sk_lt hc) (by omega)
    have p := h 0 j (by omega) hj (by omega)
    rw [e, ← p.1, ← p.2]
    grind
theorem D_01 {n : Nat} {M : Fn} (h : ∀ c, c < n + 2 → M 0 c = M 1 c) : D (n + 2) M = 0 := by
  let T : Nat → Nat → Int := fun j k => sg j * M 0 j * (sg k * M 1 (sk j k) * D n fun r c => M (r + 2) (sk j (sk k c)))
  have e1 : ∀ j, j < n + 2 → sg j * M 0 j * D (n + 1) (fun r c => M (r + 1) (sk j c)) = S (n + 1) fun k => T j k := fun j hj => by
    rw [D_succ, ← S_mul]
  rw [D_succ, S_congr e1]
  have e2 : ∀ j, j < n + 2 → S (n + 1) (fun k => T j k) = S (n + 1) (fun k => if k < j then T j k else 0) + S (n + 1) (fun k => if k < j then 0 else T j k) := fun j _ => by
    rw [← S_add]
    refine S_congr fun k _ => ?_
    split <;> omega
  rw [S_congr e2, S_add]
  have e3 : ∀ j k, j < n + 2 → k < n + 1 → ¬ k < j → T j k = - T (k + 1) j := fun j k hj hk hjk => by
    have s1 : sk (k + 1) j = j := by unfold sk; rw [if_pos (by omega)]
    have s2 : sk j k = k + 1 := by unfold sk; rw [if_neg hjk]
    have s3 : (fun r c => M (r + 2) (sk (k + 1) (sk j c))) = fun r c => M (r + 2) (sk j (sk k c)) := by
      funext r c
      rw [sk_sk (show j < k + 1 by omega)]; rfl
    show sg j * M 0 j * (sg k * M 1 (sk j k) * D n fun r c => M (r + 2) (sk j (sk k c))) = - (sg (k + 1) * M 0 (k + 1) * (sg j * M 1 (sk (k + 1) j) * D n fun r c => M (r + 2) (sk (k + 1) (sk j c))))
    rw [s1, s2, s3, sg_succ, ← h j hj, ← h (k + 1) (by omega)]
    grind
  have e4 : S (n + 2) (fun j => S (n + 1) fun k => if k < j then 0 else T j k) = - S (n + 2) (fun j => S (n + 1) fun k => if k < j then T j k else 0) := by
    rw [S_comm, S_head (n + 1) (fun j => S (n + 1) fun k => if k < j then T j k else 0)]
    have z : S (n + 1) (fun k => if k < 0 then T 0 k else 0) = 0 := S_zero fun k _ => if_neg (by omega)
    rw [z, Int.zero_add, ← S_neg]
    refine S_congr fun k hk => ?_
    have : S (n + 2) (fun j => if k < j then 0 else T j k) = S (n + 1) (fun j => if k < j then 0 else T j k) + (if k < n + 1 then 0 else T (n + 1) k) := rfl
    rw [this, if_pos hk, Int.add_zero, ← S_neg]
    refine S_congr fun j hj => ?_
    by_cases hkj : k < j
    · rw [if_pos hkj, if_neg (by omega)]; rfl
    · rw [if_neg hkj, if_pos (by omega)]
      exact e3 j k (by omega) hk hkj
  rw [e4]
  omega
theorem D_adj : ∀ {n : Nat} {M : Fn} {i : Nat}, i + 1 < n → (∀ c, c < n → M i c = M (i + 1) c) → D n M = 0
  | 0, _, _, h, _ => by omega
  | 1, _, _, h, _ => by omega
  | n + 2, M, 0, _, h => D_01 h
  | n + 2, M, i + 1, hi, h => by
    rw [D_succ]
    refine S_zero fun j hj => ?_
    rw [D_adj (n := n + 1) (M := fun r c => M (r + 1) (sk j c)) (i := i) (by omega) fun c hc => h (sk j c) (sk_lt hc), Int.mul_zero]
structure Alt (n : Nat) (φ : Fn → Int) : Prop where
  cg : ∀ M M' : Fn, (∀ r c, r < n → c < n → M r c = M' r c) → φ M = φ M'
  lin : ∀ (i : Nat) (M P Q : Fn) (a b : Int), i < n → (∀ c, c < n → M i c = a * P i c + b * Q i c) → (∀ r c, r < n → c < n → r ≠ i → M r c = P r c ∧ M r c = Q r c) → φ M = a * φ P + b * φ Q
  alt : ∀ (i j : Nat) (M : Fn), i < n → j < n → i ≠ j → (∀ c, c < n → M i c = M j c) → φ M = 0
def upd (M : Fn) (i : Nat) (x : Nat → Int) : Fn := fun r c => if r = i then x c else M r c
theorem upd_self (M : Fn) (i : Nat) (x : Nat → Int) (c : Nat) : upd M i x i c = x c := if_pos rfl
theorem upd_ne {M : Fn} {i r : Nat} {x : Nat → Int} (h : r ≠ i) (c : Nat) : upd M i x r c = M r c := if_neg h
theorem pol {n i j : Nat} {φ : Fn → Int} (cg : ∀ M M' : Fn, (∀ r c, r < n → c < n → M r c = M' r c) → φ M = φ M')
    (lin : ∀ (i : Nat) (M P Q : Fn) (a b : Int), i < n → (∀ c, c < n → M i c = a * P i c + b * Q i c) → (∀ r c, r < n → c < n → r ≠ i → M r c = P r c ∧ M r c = Q r c) → φ M = a * φ P + b * φ Q)
    (hi : i < n) (hj : j < n) (hij : i ≠ j) (alt : ∀ N : Fn, (∀ c, c < n → N i c = N j c) → φ N = 0) (M : Fn) : φ (fun r => M (sw i j r)) = - φ M := by
  have l1 : φ (upd (upd M i fun c => M i c + M j c) j fun c => M i c + M j c) = 1 * φ (upd (upd M i (M i)) j fun c => M i c + M j c) + 1 * φ (upd (upd M i (M j)) j fun c => M i c + M j c) :=
    lin i _ _ _ 1 1 hi (fun c _ => by rw [upd_ne hij, upd_ne hij, upd_ne hij, upd_self, upd_self, upd_self]; omega) fun r c _ _ hr => by
      unfold upd
      grind
  have l2 : ∀ x : Nat → Int, φ (upd (upd M i x) j fun c => M i c + M j c) = 1 * φ (upd (upd M i x) j (M i)) + 1 * φ (upd (upd M i x) j (M j)) := fun x =>
    lin j _ _ _ 1 1 hj (fun c _ => by rw [upd_self, upd_self, upd_self]; omega) fun r c _ _ hr => by
      rw [upd_ne hr, upd_ne hr, upd_ne hr]; exact ⟨rfl, rfl⟩
  have z0 : φ (upd (upd M i fun c => M i c + M j c) j fun c => M i c + M j c) = 0 := alt _ fun c _ => by rw [upd_ne hij, upd_self, upd_self]
  have z1 : φ (upd (upd M i (M i)) j (M i)) = 0 := alt _ fun c _ => by rw [upd_ne hij, upd_self, upd_self]
  have z2 : φ (upd (upd M i (M j)) j (M j)) = 0 := alt _ fun c _ => by rw [upd_ne hij, upd_self, upd_self]
  have s1 : φ (upd (upd M i (M i)) j (M j)) = φ M := cg _ _ fun r c _ _ => by
    unfold upd
    split
    · rename_i e; rw [e]
    · split
      · rename_i e; rw [e]
      · rfl
  have s2 : φ (upd (upd M i (M j)) j (M i)) = φ (fun r => M (sw i j r)) := cg _ _ fun r c _ _ => by
    unfold upd sw
    by_cases h1 : r = j
    · rw [if_pos h1]
      by_cases h2 : r = i
      · omega
      · rw [if_neg h2, if_pos h1]
    · rw [if_neg h1]
      by_cases h2 : r = i
      · rw [if_pos h2, if_pos h2]
      · rw [if_neg h2, if_neg h2, if_neg h1]
  have a1 := l2 (M i)
  have a2 := l2 (M j)
  rw [z1, s1] at a1
  rw [z2, s2] at a2
  rw [z0, a1, a2] at l1
  omega
theorem Alt.swap {n i j : Nat} {φ : Fn → Int} (A : Alt n φ) (hi : i < n) (hj : j < n) (hij : i ≠ j) (M : Fn) : φ (fun r => M (sw i j r)) = - φ M :=
  pol A.cg A.lin hi hj hij (fun N h => A.alt i j N hi hj hij h) M
theorem alt_of_adj {n : Nat} {φ : Fn → Int} (cg : ∀ M M' : Fn, (∀ r c, r < n → c < n → M r c = M' r c) → φ M = φ M')
    (lin : ∀ (i : Nat) (M P Q : Fn) (a b : Int), i < n → (∀ c, c < n → M i c = a * P i c + b * Q i c) → (∀ r c, r < n → c < n → r ≠ i → M r c = P r c ∧ M r c = Q r c) → φ M = a * φ P + b * φ Q)
    (adj : ∀ (i : Nat) (M : Fn), i + 1 < n → (∀ c, c < n → M i c = M (i + 1) c) → φ M = 0) : Alt n φ := by
  have far : ∀ (d i : Nat) (M : Fn), i + d + 1 < n → (∀ c, c < n → M i c = M (i + d + 1) c) → φ M = 0 := by
    intro d
    induction d with
    | zero => exact fun i M h1 h2 => adj i M h1 h2
    | succ d ih =>
      intro i M h1 h2
      have hs := pol cg lin (i := i + d + 1) (j := i + d + 1 + 1) (by omega) (by omega) (by omega) (fun N h => adj (i + d + 1) N (by omega) h) M
      have : φ (fun r => M (sw (i + d + 1) (i + d + 1 + 1) r)) = 0 := ih i _ (by omega) fun c hc => by
        have e1 : sw (i + d + 1) (i + d + 1 + 1) i = i := by unfold sw; rw [if_neg (by omega), if_neg (by omega)]
        have e2 : sw (i + d + 1) (i + d + 1 + 1) (i + d + 1) = i + d + 1 + 1 := by unfold sw; rw [if_pos rfl]
        rw [e1, e2]
        exact h2 c hc
      omega
  refine ⟨cg, lin, fun i j M hi hj hij h => ?_⟩
  by_cases hlt : i < j
  · obtain ⟨d, rfl⟩ : ∃ d, j = i + d + 1 := ⟨j - i - 1, by omega⟩
    exact far d i M hj h
  · obtain ⟨d, rfl⟩ : ∃ d, i = j + d + 1 := ⟨i - j - 1, by omega⟩
    exact far d j M hi fun c hc => (h c hc).symm
theorem D_alt (n : Nat) : Alt n (D n) := alt_of_adj (fun _ _ h => D_congr h) (fun _ _ _ _ _ _ hi h0 h => D_lin hi h0 h) fun _ _ h1 h2 => D_adj h1 h2
theorem Alt.row0 {n i : Nat} {φ : Fn → Int} (A : Alt n φ) (hi : i < n) {M : Fn} (h : ∀ c, c < n → M i c = 0) : φ M = 0 := by
  have := A.lin i M M M 0 0 hi (fun c hc => by rw [h c hc]; rfl) fun _ _ _ _ _ => ⟨rfl, rfl⟩
  omega
theorem Alt.mulRow {n i : Nat} {φ : Fn → Int} (A : Alt n φ) (hi : i < n) (M : Fn) (t : Int) (x : Nat → Int) : φ (upd M i fun c => t * x c) = t * φ (upd M i x) := by
  have := A.lin i (upd M i fun c => t * x c) (upd M i x) (upd M i x) t 0 hi (fun c hc => by rw [upd_self, upd_self]; omega) fun r c _ _ hr => by rw [upd_ne hr, upd_ne hr]; exact ⟨rfl, rfl⟩
  omega
theorem Alt.addRow {n i : Nat} {φ : Fn → Int} (A : Alt n φ) (hi : i < n) (M : Fn) (x y : Nat → Int) : φ (upd M i fun c => x c + y c) = φ (upd M i x) + φ (upd M i y) := by
  have := A.lin i (upd M i fun c => x c + y c) (upd M i x) (upd M i y) 1 1 hi (fun c hc => by rw [upd_self, upd_self, upd_self]; omega) fun r c _ _ hr => by rw [upd_ne hr, upd_ne hr, upd_ne hr]; exact ⟨rfl, rfl⟩
  omega
theorem Alt.sumRow {n i : Nat} {φ : Fn → Int} (A : Alt n φ) (hi : i < n) (M : Fn) (a : Nat → Int) (x : Nat → Nat → Int) : ∀ m, φ (upd M i fun c => S m fun j => a j * x j c) = S m fun j => a j * φ (upd M i (x j))
  | 0 => A.row0 hi fun c _ => by rw [upd_self]; rfl
  | m + 1 => by
    have : (fun c => S (m + 1) fun j => a j * x j c) = fun c => (S m fun j => a j * x j c) + a m * x m c := rfl
    rw [this, A.addRow hi, A.sumRow hi M a x m, A.mulRow hi]
    rfl
theorem Alt.more {n i : Nat} {φ : Fn → Int} (A : Alt n φ) (hi : i < n) (M : Fn) (x : Nat → Int) (a : Nat → Int) (m : Nat) (hm : m ≤ n) (him : m ≤ i) : φ (upd M i fun c => x c + S m fun j => a j * M j c) = φ (upd M i x) := by
  rw [A.addRow hi, A.sumRow hi M a (fun j => M j) m, S_zero fun j hj => ?_, Int.add_zero]
  rw [A.alt i j _ hi (by omega) (by omega) fun c _ => by rw [upd_self, upd_ne (by omega)], Int.mul_zero]
def un (j c : Nat) : Nat := if c < j then c else c - 1
def grow (j : Nat) (B : Fn) : Fn := fun r c => if r = 0 then dl j c else if c = j then 0 else B (r - 1) (un j c)
theorem un_lt {n j c : Nat} (hj : j < n + 1) (hc : c < n + 1) (h : c ≠ j) : un j c < n := by unfold un; split <;> omega
theorem un_sk {j c : Nat} (h : c ≠ j) : sk j (un j c) = c := by unfold sk un; grind
theorem Alt.grow {n j : Nat} {φ : Fn → Int} (A : Alt (n + 1) φ) (hj : j < n + 1) : Alt n fun B => φ (Mx.grow j B) where
  cg := fun M M' h => A.cg _ _ fun r c hr hc => by
    have := h (r - 1) (un j c)
    have := un_lt (c := c) hj hc
    unfold Mx.grow
    grind
  lin := fun i M P Q a b hi h0 h => A.lin (i + 1) _ _ _ a b (by omega) (fun c hc => by
    have := h0 (un j c)
    have := un_lt (c := c) hj hc
    have e : i + 1 - 1 = i := by omega
    unfold Mx.grow
    rw [e]
    grind) fun r c hr hc hne => by
    have := h (r - 1) (un j c)
    have := un_lt (c := c) hj hc
    unfold Mx.grow
    grind
  alt := fun i k M hi hk hik h => A.alt (i + 1) (k + 1) _ (by omega) (by omega) (by omega) fun c hc => by
    have := h (un j c)
    have := un_lt (c := c) hj hc
    have e : i + 1 - 1 = i := by omega
    have e2 : k + 1 - 1 = k := by omega
    unfold Mx.grow
    rw [e, e2]
    grind
theorem Alt.units {n : Nat} {φ : Fn → Int} (A : Alt (n + 1) φ) : ∀ j, j < n + 1 → φ (Mx.grow j dl) = sg j * φ dl
  | 0, _ => by
    rw [sg_zero, Int.one_mul]
    refine A.cg _ _ fun r c hr hc => ?_
    unfold Mx.grow un dl
    grind
  | j + 1, hj => by
    have ih := A.units j (by omega)
    have s := A.swap (i := 0) (j := j + 1) (by omega) hj (by omega) (Mx.grow j dl)
    rw [sg_succ, Int.neg_mul, ← ih, ← s]
    refine A.cg _ _ fun r c hr hc => ?_
    unfold Mx.grow un dl sw
    grind
theorem Alt.add1 {n i k : Nat} {φ : Fn → Int} (A : Alt n φ) (hi : i < n) (hk : k < n) (hik : i ≠ k) (M : Fn) (x : Nat → Int) (t : Int) : φ (upd M i fun c => x c + t * M k c) = φ (upd M i x) := by
  rw [A.addRow hi, A.mulRow hi M t (M k), A.alt i k (upd M i (M k)) hi hk hik fun c _ => by rw [upd_self, upd_ne (Ne.symm hik)], Int.mul_zero, Int.add_zero]
def zr (j m : Nat) (M : Fn) : Fn := fun r c => if r = 0 then dl j c else if r ≤ m ∧ c = j then 0 else M r c
theorem Alt.zr {n j : Nat} {φ : Fn → Int} (A : Alt (n + 1) φ) (M : Fn) : ∀ m, m ≤ n → φ (Mx.zr j m M) = φ (upd M 0 (dl j))
  | 0, _ => A.cg _ _ fun r c hr hc => by unfold Mx.zr upd; grind
  | m + 1, hm => by
    rw [← A.zr M m (by omega)]
    have e := A.add1 (i := m + 1) (k := 0) (by omega) (by omega) (by omega) (Mx.zr j m M) (M (m + 1)) (- M (m + 1) j)
    have e1 : φ (Mx.zr j (m + 1) M) = φ (upd (Mx.zr j m M) (m + 1) fun c => M (m + 1) c + - M (m + 1) j * Mx.zr j m M 0 c) := A.cg _ _ fun r c hr hc => by
      unfold upd Mx.zr dl
      by_cases h0 : r = m + 1
      · subst h0
        by_cases h1 : c = j
        · subst h1; simp; omega
        · have : ¬ j = c := fun z => h1 z.symm
          simp [h1, this]
      · rw [if_neg h0]
        grind
    have e2 : φ (upd (Mx.zr j m M) (m + 1) (M (m + 1))) = φ (Mx.zr j m M) := A.cg _ _ fun r c hr hc => by
      unfold upd Mx.zr
      grind
    rw [e1, e, e2]
theorem D_one : ∀ {n : Nat} {φ : Fn → Int}, Alt n φ → ∀ M, φ M = φ dl * D n M
  | 0, φ, A, M => by rw [D_zero, Int.mul_one]; exact A.cg _ _ fun r c hr => by omega
  | n + 1, φ, A, M => by
    have h1 : φ M = S (n + 1) fun j => M 0 j * φ (upd M 0 (dl j)) := by
      rw [← A.sumRow (by omega) M (M 0) dl (n + 1)]
      refine A.cg _ _ fun r c hr hc => ?_
      by_cases h0 : r = 0
      · subst h0
        rw [upd_self, S_dl_r hc]
      · rw [upd_ne h0]
    have h2 : ∀ j, j < n + 1 → φ (upd M 0 (dl j)) = φ (Mx.grow j fun r c => M (r + 1) (sk j c)) := fun j hj => by
      rw [← A.zr M n (Nat.le_refl _)]
      refine A.cg _ _ fun r c hr hc => ?_
      unfold Mx.grow Mx.zr
      by_cases h0 : r = 0
      · rw [if_pos h0, if_pos h0]
      · rw [if_neg h0, if_neg h0]
        by_cases h3 : c = j
        · rw [if_pos ⟨by omega, h3⟩, if_pos h3]
        · rw [if_neg (by omega), if_neg h3]
          dsimp only
          rw [un_sk h3, show r - 1 + 1 = r by omega]
    rw [h1, D_succ, ← S_mul]
    refine S_congr fun j hj => ?_
    have h3 := D_one (A.grow hj) fun r c => M (r + 1) (sk j c)
    have h4 := A.units j hj
    have h5 : φ (Mx.grow j fun r c => M (r + 1) (sk j c)) = φ (Mx.grow j dl) * D n fun r c => M (r + 1) (sk j c) := h3
    rw [h2 j hj, h5, h4]
    grind
theorem D_units : ∀ n, D n dl = 1
  | 0 => rfl
  | n + 1 => by
    rw [D_succ, S_one (k := 0) (by omega) fun j hj h0 => by rw [dl_ne (Ne.symm h0), Int.mul_zero, Int.zero_mul]]
    have : D n (fun r c => dl (r + 1) (sk 0 c)) = D n dl := D_congr fun r c _ _ => by
      unfold dl sk
      grind
    rw [this, D_units n, dl_self]; rfl
theorem D_mul (n : Nat) (A B : Fn) : D n (fun r c => S n fun k => A r k * B k c) = D n A * D n B := by
  have al : Alt n fun A => D n (fun r c => S n fun k => A r k * B k c) := by
    refine ⟨fun M M' h => D_congr fun r c hr hc => S_congr fun k hk => by rw [h r k hr hk], fun i M P Q a b hi h0 h => (D_alt n).lin i _ _ _ a b hi (fun c hc => ?_) fun r c hr hc hne => ⟨S_congr fun k hk => by rw [(h r k hr hk hne).1], S_congr fun k hk => by rw [(h r k hr hk hne).2]⟩, fun i j M hi hj hij h => (D_alt n).alt i j _ hi hj hij fun c hc => S_congr fun k hk => by rw [h k hk]⟩
    show (S n fun k => M i k * B k c) = a * (S n fun k => P i k * B k c) + b * S n fun k => Q i k * B k c
    rw [← S_mul, ← S_mul, ← S_add]
    refine S_congr fun k hk => ?_
    rw [h0 k hk]
    grind
  have h := D_one al A
  have e : D n (fun r c => S n fun k => dl r k * B k c) = D n B := D_congr fun r c hr hc => S_dl_l hr fun k => B k c
  rw [h, e, Int.mul_comm]
theorem D_clin : ∀ {n : Nat} {M P Q : Fn} {a b : Int} {i : Nat}, i < n → (∀ r, r < n → M r i = a * P r i + b * Q r i) → (∀ r c, r < n → c < n → c ≠ i → M r c = P r c ∧ M r c = Q r c) → D n M = a * D n P + b * D n Q
  | 0, _, _, _, _, _, _, h, _, _ => by omega
  | n + 1, M, P, Q, a, b, i, hi, h0, h => by
    rw [D_succ, D_succ, D_succ, ← S_mul, ← S_mul, ← S_add]
    refine S_congr fun j hj => ?_
    by_cases hij : j = i
    · subst hij
      have hs : ∀ c, sk j c ≠ j := fun c => by unfold sk; split <;> omega
      have e1 : D n (fun r c => M (r + 1) (sk j c)) = D n (fun r c => P (r + 1) (sk j c)) := D_congr fun r c hr hc => (h (r + 1) (sk j c) (by omega) (sk_lt hc) (hs c)).1
      have e2 : D n (fun r c => M (r + 1) (sk j c)) = D n (fun r c => Q (r + 1) (sk j c)) := D_congr fun r c hr hc => (h (r + 1) (sk j c) (by omega) (sk_lt hc) (hs c)).2
      rw [h0 0 (by omega), ← e1, ← e2]
      grind
    · have p := h 0 j (by omega) hj hij
      have hu : sk j (un j i) = i := un_sk (Ne.symm hij)
      have hs : ∀ c, c ≠ un j i → sk j c ≠ i := fun c hc => by unfold sk; unfold un at hc; grind
      have hlt : un j i < n := un_lt hj hi (Ne.symm hij)
      have e := D_clin (n := n) (M := fun r c => M (r + 1) (sk j c)) (P := fun r c => P (r + 1) (sk j c)) (Q := fun r c => Q (r + 1) (sk j c)) (a := a) (b := b) (i := un j i) hlt (fun r hr => by
        rw [hu]
        exact h0 (r + 1) (by omega)) fun r c hr hc hne => h (r + 1) (sk j c) (by omega) (sk_lt hc) (hs c hne)
      rw [e, ← p.1, ← p.2]
      grind
theorem D_cadj : ∀ {n : Nat} {M : Fn} {i : Nat}, i + 1 < n → (∀ r, r < n → M r i = M r (i + 1)) → D n M = 0
  | 0, _, _, h, _ => by omega
  | n + 1, M, i, hi, h => by
    rw [D_succ]
    have key : ∀ j, j < n + 1 → j ≠ i → j ≠ i + 1 → D n (fun r c => M (r + 1) (sk j c)) = 0 := fun j hj h1 h2 => by
      refine D_cadj (i := un j i) (by unfold un; split <;> omega) fun r hr => ?_
      have e1 : sk j (un j i) = i := un_sk (Ne.symm h1)
      have e2 : sk j (un j i + 1) = i + 1 := by unfold sk un; grind
      rw [e1, e2]
      exact h (r + 1) (by omega)
    have e : D n (fun r c => M (r + 1) (sk i c)) = D n (fun r c => M (r + 1) (sk (i + 1) c)) := D_congr fun r c hr hc => by
      by_cases hc2 : c = i
      · subst hc2
        have a1 : sk c c = c + 1 := by unfold sk; rw [if_neg (by omega)]
        have a2 : sk (c + 1) c = c := by unfold sk; rw [if_pos (by omega)]
        rw [a1, a2]
        exact (h (r + 1) (by omega)).symm
      · have a1 : sk i c = sk (i + 1) c := by unfold sk; grind
        rw [a1]
    have two : ∀ (m : Nat) (f : Nat → Int), i + 1 < m → (∀ j, j < m → j ≠ i → j ≠ i + 1 → f j = 0) → S m f = f i + f (i + 1) := fun m => by
      induction m with
      | zero => intro f h; omega
      | succ m ih =>
        intro f hm hf
        show S m f + f m = _
        by_cases hmi : m = i + 1
        · subst hmi
          rw [S_one (k := i) (by omega) fun j hj hne => hf j (by omega) hne (by omega)]
        · rw [ih f (by omega) fun j hj h1 h2 => hf j (by omega) h1 h2, hf m (by omega) (by omega) hmi, Int.add_zero]
    rw [two (n + 1) _ hi fun j hj h1 h2 => by rw [key j hj h1 h2, Int.mul_zero], e, sg_succ, h 0 (by omega)]
    grind
def tr (M : Fn) : Fn := fun r c => M c r
theorem D_tr (n : Nat) (M : Fn) : D n (tr M) = D n M := by
  have al : Alt n fun A => D n (tr A) := alt_of_adj (fun M M' h => D_congr fun r c hr hc => h c r hc hr)
    (fun i M P Q a b hi h0 h => D_clin hi (fun r hr => h0 r hr) fun r c hr hc hne => h c r hc hr hne)
    fun i M hi h => D_cadj hi fun r hr => h r hr
  have h := D_one al M
  have e : D n (tr dl) = D n dl := D_congr fun r c _ _ => dl_comm c r
  have h2 : D n (tr M) = D n (tr dl) * D n M := h
  rw [h2, e, D_units, Int.one_mul]
theorem D_last : ∀ {n : Nat} {M : Fn}, (∀ c, c < n + 1 → M n c = dl n c) → D (n + 1) M = D n M
  | 0, M, h => by
    rw [D_succ]
    show 0 + sg 0 * M 0 0 * D 0 _ = 1
    rw [h 0 (by omega), dl_self, sg_zero, D_zero]; omega
  | n + 1, M, h => by
    have e1 : ∀ j, j < n + 1 → D (n + 1) (fun r c => M (r + 1) (sk j c)) = D n (fun r c => M (r + 1) (sk j c)) := fun j hj => D_last fun c hc => by
      rw [h (sk j c) (sk_lt hc)]
      unfold dl sk
      grind
    have e2 : D (n + 1) (fun r c => M (r + 1) (sk (n + 1) c)) = 0 := (D_alt (n + 1)).row0 (i := n) (by omega) fun c hc => by
      have s : sk (n + 1) c = c := by unfold sk; rw [if_pos (by omega)]
      rw [s, h c (by omega), dl_ne (by omega)]
    have e3 : D (n + 1 + 1) M = (S (n + 1) fun j => sg j * M 0 j * D (n + 1) fun r c => M (r + 1) (sk j c)) + sg (n + 1) * M 0 (n + 1) * D (n + 1) (fun r c => M (r + 1) (sk (n + 1) c)) := D_succ (n + 1) M
    rw [e3, e2, Int.mul_zero, Int.add_zero, D_succ]
    exact S_congr fun j hj => by rw [e1 j hj]
end Mx
namespace Mx
theorem upd_comm {M : Fn} {i j : Nat} {x y : Nat → Int} (h : i ≠ j) : upd (upd M i x) j y = upd (upd M j y) i x := by
  funext r c
  unfold upd
  grind
def gx (R : Fn) (p : Nat) (x : Nat → Int) (j : Nat) : Int := D (p + 1) fun r c => if r < p then R r (if c < p then c else j) else x (if c < p then c else j)
theorem gx_low {R : Fn} {p j : Nat} {x : Nat → Int} (h : j < p) : gx R p x j = 0 := by
  unfold gx
  rw [← D_tr]
  refine (D_alt (p + 1)).alt j p _ (by omega) (by omega) (by omega) fun c hc => ?_
  unfold tr
  dsimp only
  rw [if_pos h, if_neg (Nat.lt_irrefl p)]
def bt (R : Fn) (p : Nat) (x : Nat → Int) (k : Nat) : Int := D (p + 1) (upd (fun c r => if r < p then R r c else x c) p (dl k))
theorem gx_eq (R : Fn) (p : Nat) (x : Nat → Int) (j : Nat) : gx R p x j = D p R * x j + S p fun k => bt R p x k * R k j := by
  have e1 : gx R p x j = D (p + 1) (upd (fun c r => if r < p then R r c else x c) p fun r => S (p + 1) fun k => (if k < p then R k j else x j) * dl k r) := by
    unfold gx
    rw [← D_tr]
    refine D_congr fun c r hc hr => ?_
    unfold tr upd
    by_cases h : c = p
    · subst h
      rw [if_pos rfl]
      dsimp only
      rw [S_dl_r hr, if_neg (Nat.lt_irrefl _)]
    · rw [if_neg h]
      dsimp only
      rw [if_pos (show c < p by omega)]
  rw [e1, (D_alt (p + 1)).sumRow (by omega)]
  have e2 : D (p + 1) (upd (fun c r => if r < p then R r c else x c) p (dl p)) = D p R := by
    rw [D_last fun c _ => upd_self _ _ _ _]
    rw [← D_tr]
    refine D_congr fun r c hr hc => ?_
    unfold tr
    rw [upd_ne (by omega), if_pos (by omega)]
  have e3 : (S (p + 1) fun k => (if k < p then R k j else x j) * D (p + 1) (upd (fun c r => if r < p then R r c else x c) p (dl k))) = (S p fun k => (if k < p then R k j else x j) * D (p + 1) (upd (fun c r => if r < p then R r c else x c) p (dl k))) + (if p < p then R p j else x j) * D (p + 1) (upd (fun c r => if r < p then R r c else x c) p (dl p)) := rfl
  rw [e3, e2, if_neg (Nat.lt_irrefl p), Int.add_comm, Int.mul_comm]
  congr 1
  refine S_congr fun k hk => ?_
  rw [if_pos hk, Int.mul_comm]
  rfl
def cl (p j1 j2 c : Nat) : Nat := if c < p then c else if c = p then j1 else j2
def gy (R : Fn) (p : Nat) (x y : Nat → Int) (j1 j2 : Nat) : Int := D (p + 2) (upd (upd (fun r c => R r (cl p j1 j2 c)) p fun c => x (cl p j1 j2 c)) (p + 1) fun c => y (cl p j1 j2 c))
theorem gx_gy {R : Fn} {p j1 j2 : Nat} {x y : Nat → Int} (hd : D p R ≠ 0) : gx R p x j1 * gx R p y j2 - gx R p y j1 * gx R p x j2 = D p R * gy R p x y j1 j2 := by
  have A := D_alt (p + 2)
  let B : Fn := fun r c => R r (cl p j1 j2 c)
  let ps : (Nat → Int) → (Nat → Int) → Int := fun u v => D (p + 2) (upd (upd B p u) (p + 1) v)
  -- rows less the first rows
  have s1 : ∀ u, ps u (fun c => gx R p y (cl p j1 j2 c)) = D p R * ps u fun c => y (cl p j1 j2 c) := fun u => by
    have e : (fun c => gx R p y (cl p j1 j2 c)) = fun c => (fun c => D p R * y (cl p j1 j2 c)) c + S p fun k => bt R p y k * upd B p u k c := by
      funext c
      rw [gx_eq]
      congr 1
      refine S_congr fun k hk => ?_
      rw [upd_ne (by omega)]
    show D (p + 2) (upd (upd B p u) (p + 1) fun c => gx R p y (cl p j1 j2 c)) = _
    rw [e, A.more (i := p + 1) (by omega) (upd B p u) (fun c => D p R * y (cl p j1 j2 c)) (bt R p y) p (by omega) (by omega), A.mulRow (by omega)]
  have s2 : ∀ v, ps (fun c => gx R p x (cl p j1 j2 c)) v = D p R * ps (fun c => x (cl p j1 j2 c)) v := fun v => by
    have e : (fun c => gx R p x (cl p j1 j2 c)) = fun c => (fun c => D p R * x (cl p j1 j2 c)) c + S p fun k => bt R p x k * upd B (p + 1) v k c := by
      funext c
      rw [gx_eq]
      congr 1
      refine S_congr fun k hk => ?_
      rw [upd_ne (by omega)]
    show D (p + 2) (upd (upd B p fun c => gx R p x (cl p j1 j2 c)) (p + 1) v) = D p R * D (p + 2) (upd (upd B p fun c => x (cl p j1 j2 c)) (p + 1) v)
    rw [upd_comm (by omega), e, A.more (i := p) (by omega) (upd B (p + 1) v) (fun c => D p R * x (cl p j1 j2 c)) (bt R p x) p (by omega) (by omega), A.mulRow (by omega), upd_comm (by omega)]
  have lhs : ps (fun c => gx R p x (cl p j1 j2 c)) (fun c => gx R p y (cl p j1 j2 c)) = D p R * (D p R * gy R p x y j1 j2) := by
    rw [s1, s2]; rfl
  -- two columns
  have two : ∀ z : Nat → Int, ∀ c, c < p + 2 → gx R p z (cl p j1 j2 c) = gx R p z j1 * dl p c + gx R p z j2 * dl (p + 1) c := fun z c hc => by
    unfold cl
    by_cases h1 : c < p
    · rw [if_pos h1, gx_low h1, dl_ne (by omega), dl_ne (by omega)]; omega
    · rw [if_neg h1]
      by_cases h2 : c = p
      · rw [if_pos h2, h2, dl_self, dl_ne (by omega)]; omega
      · rw [if_neg h2, show c = p + 1 by omega, dl_self, dl_ne (by omega)]; omega
  have lin2 : ∀ u a b, ps u (fun c => a * dl p c + b * dl (p + 1) c) = a * ps u (dl p) + b * ps u (dl (p + 1)) := fun u a b => by
    show D (p + 2) (upd (upd B p u) (p + 1) fun c => a * dl p c + b * dl (p + 1) c) = _
    rw [A.addRow (by omega), A.mulRow (by omega), A.mulRow (by omega)]
  have lin1 : ∀ v a b, ps (fun c => a * dl p c + b * dl (p + 1) c) v = a * ps (dl p) v + b * ps (dl (p + 1)) v := fun v a b => by
    show D (p + 2) (upd (upd B p fun c => a * dl p c + b * dl (p + 1) c) (p + 1) v) = a * D (p + 2) (upd (upd B p (dl p)) (p + 1) v) + b * D (p + 2) (upd (upd B p (dl (p + 1))) (p + 1) v)
    rw [upd_comm (by omega), A.addRow (by omega), A.mulRow (by omega), A.mulRow (by omega), upd_comm (by omega), upd_comm (show p + 1 ≠ p by omega)]
  have z1 : ∀ u, ps u u = 0 := fun u => A.alt p (p + 1) _ (by omega) (by omega) (by omega) fun c _ => by rw [upd_ne (by omega), upd_self, upd_self]
  have z2 : ps (dl (p + 1)) (dl p) = - ps (dl p) (dl (p + 1)) := by
    have h := A.swap (i := p) (j := p + 1) (by omega) (by omega) (by omega) (upd (upd B p (dl p)) (p + 1) (dl (p + 1)))
    rw [← h]
    refine D_congr fun r c hr hc => ?_
    unfold upd sw
    grind
  have z3 : ps (dl p) (dl (p + 1)) = D p R := by
    show D (p + 2) (upd (upd B p (dl p)) (p + 1) (dl (p + 1))) = _
    rw [D_last fun c _ => upd_self _ _ _ _]
    have e : D (p + 1) (upd (upd B p (dl p)) (p + 1) (dl (p + 1))) = D (p + 1) (upd B p (dl p)) := D_congr fun r c hr hc => upd_ne (by omega) c
    rw [e, D_last fun c _ => upd_self _ _ _ _]
    refine D_congr fun r c hr hc => ?_
    rw [upd_ne (by omega)]
    show R r (cl p j1 j2 c) = R r c
    unfold cl
    rw [if_pos hc]
  have rhs : ps (fun c => gx R p x (cl p j1 j2 c)) (fun c => gx R p y (cl p j1 j2 c)) = D p R * (gx R p x j1 * gx R p y j2 - gx R p y j1 * gx R p x j2) := by
    have e : ps (fun c => gx R p x (cl p j1 j2 c)) (fun c => gx R p y (cl p j1 j2 c)) = ps (fun c => gx R p x j1 * dl p c + gx R p x j2 * dl (p + 1) c) (fun c => gx R p y j1 * dl p c + gx R p y j2 * dl (p + 1) c) := D_congr fun r c hr hc => by
      unfold upd
      by_cases h1 : r = p + 1
      · rw [if_pos h1, if_pos h1]; exact two y c hc
      · rw [if_neg h1, if_neg h1]
        by_cases h2 : r = p
        · rw [if_pos h2, if_pos h2]; exact two x c hc
        · rw [if_neg h2, if_neg h2]
    rw [e, lin1, lin2, lin2, z1, z1, z2, z3]
    grind
  have := lhs.symm.trans rhs
  exact (Int.eq_of_mul_eq_mul_left hd this).symm
theorem D_none {n p : Nat} {R : Fn} (hp : p < n) (hd : D p R ≠ 0) (h : ∀ i, p ≤ i → i < n → gx R p (R i) p = 0) : D n R = 0 := by
  let C : Nat → Int := fun c => D (p + 1) (upd R p (dl c))
  have hC : C p = D p R := by
    show D (p + 1) (upd R p (dl p)) = _
    rw [D_last fun c _ => upd_self _ _ _ _]
    exact D_congr fun r c hr hc => upd_ne (by omega) c
  have ex : ∀ x : Nat → Int, gx R p x p = S (p + 1) fun c => x c * C c := fun x => by
    have e : gx R p x p = D (p + 1) (upd R p fun c => S (p + 1) fun k => x k * dl k c) := D_congr fun r c hr hc => by
      have hc2 : (if c < p then c else p) = c := by split <;> omega
      rw [hc2]
      unfold upd
      by_cases h1 : r = p
      · rw [if_pos h1, if_neg (by omega)]
        dsimp only
        rw [S_dl_r hc]
      · rw [if_neg h1, if_pos (by omega)]
    rw [e, (D_alt (p + 1)).sumRow (by omega)]
  have all : ∀ i, i < n → (S (p + 1) fun c => R i c * C c) = 0 := fun i hi => by
    rw [← ex]
    by_cases hip : p ≤ i
    · exact h i hip hi
    · refine (D_alt (p + 1)).alt i p _ (by omega) (by omega) (by omega) fun c _ => ?_
      rw [if_pos (by omega), if_neg (Nat.lt_irrefl _)]
  have A := D_alt n
  have m1 : D n (upd (tr R) p fun r => C p * R r p) = C p * D n R := by
    rw [A.mulRow hp (tr R) (C p) (fun r => R r p)]
    congr 1
    rw [← D_tr n R]
    refine D_congr fun r c _ _ => ?_
    unfold upd
    split
    · rename_i e; rw [e]; rfl
    · rfl
  have m2 : D n (upd (tr R) p fun r => C p * R r p) = D n (upd (tr R) p fun r => (fun _ => 0) r + S p fun k => - C k * tr R k r) := D_congr fun r c hr hc => by
    unfold upd
    split
    · have := all c hc
      have e : (S (p + 1) fun k => R c k * C k) = (S p fun k => R c k * C k) + R c p * C p := rfl
      rw [e] at this
      have e2 : (S p fun k => - C k * tr R k c) = - S p fun k => R c k * C k := by
        rw [← S_neg]
        refine S_congr fun k _ => ?_
        unfold tr
        grind
      dsimp only
      rw [e2, Int.mul_comm]
      omega
    · rfl
  rw [m2, A.more hp (tr R) (fun _ => 0) (fun k => - C k) p (by omega) (Nat.le_refl _), A.row0 hp fun c _ => upd_self _ _ _ _] at m1
  rcases Int.mul_eq_zero.mp m1.symm with z | z
  · exact absurd (hC.symm.trans z) hd
  · exact z
structure Bar (n p : Nat) (A : Fn) (m : Nat) (s d : Int) (L : Fn) : Prop where
  ex : ∃ R : Fn, D n R = s * D n A ∧ D p R = d ∧ (∀ i j, p ≤ i → i < n → j < n → L i j = gx R p (R i) j) ∧ ∀ r c, r < n → c < n → (R r c).natAbs ≤ m
  one : s * s = 1
  ne : d ≠ 0
theorem Bar.start {n m : Nat} {A : Fn} (h : ∀ r c, r < n → c < n → (A r c).natAbs ≤ m) : Bar n 0 A m 1 1 A := by
  refine ⟨⟨A, by omega, rfl, fun i j _ _ _ => ?_, h⟩, rfl, by decide⟩
  unfold gx
  rw [D_succ]
  show A i j = 0 + sg 0 * _ * D 0 _
  rw [sg_zero, D_zero, if_neg (by omega), if_neg (by omega)]
  omega
theorem gx_cg {R R' : Fn} {p : Nat} {x x' : Nat → Int} {j : Nat} (h : ∀ r c, r < p → R r c = R' r c) (hx : ∀ c, x c = x' c) : gx R p x j = gx R' p x' j := D_congr fun r c hr hc => by
  split
  · rename_i q; exact h r _ q
  · exact hx _
theorem Bar.swap {n p k m : Nat} {A L : Fn} {s d : Int} (B : Bar n p A m s d L) (hp : p < n) (hk : k < n) (hpk : p < k) : Bar n p A m (-s) d fun r => L (sw p k r) := by
  obtain ⟨R, h1, h2, h3, h4⟩ := B.ex
  have hs : ∀ r, r < p → sw p k r = r := fun r hr => by unfold sw; rw [if_neg (by omega), if_neg (by omega)]
  refine ⟨⟨fun r => R (sw p k r), ?_, ?_, fun i j hi hin hj => ?_, fun r c hr hc => h4 _ c (sw_lt hp hk hr) hc⟩, by have := B.one; grind, B.ne⟩
  · rw [(D_alt n).swap hp hk (by omega), h1, Int.neg_mul]
  · rw [← h2]
    exact D_congr fun r c hr _ => by rw [hs r hr]
  · have hge : p ≤ sw p k i := by unfold sw; split; omega; split <;> omega
    rw [h3 (sw p k i) j hge (sw_lt hp hk hin) hj]
    exact gx_cg (fun r c hr => by rw [hs r hr]) fun c => rfl
theorem Bar.none {n p m : Nat} {A L : Fn} {s d : Int} (B : Bar n p A m s d L) (hp : p < n) (h : ∀ i, p ≤ i → i < n → L i p = 0) : D n A = 0 := by
  obtain ⟨R, h1, h2, h3, h4⟩ := B.ex
  have : D n R = 0 := D_none hp (by rw [h2]; exact B.ne) fun i hi hin => by rw [← h3 i p hi hin hp]; exact h i hi hin
  rw [h1] at this
  have o := B.one
  have e : s * (s * D n A) = 0 := by rw [this, Int.mul_zero]
  rw [← Int.mul_assoc, o, Int.one_mul] at e
  exact e
theorem Bar.stop {n m : Nat} {A L : Fn} {s d : Int} (B : Bar n n A m s d L) : s * d = D n A := by
  obtain ⟨R, h1, h2, _, _⟩ := B.ex
  rw [← h2, h1, ← Int.mul_assoc, B.one, Int.one_mul]
theorem Bar.step {n p m : Nat} {A L L' : Fn} {s d : Int} (B : Bar n p A m s d L) (hp : p < n) (h : L p p ≠ 0) (hL : ∀ i j, p < i → i < n → j < n → L' i j = (L p p * L i j - L i p * L p j).fdiv d) : Bar n (p + 1) A m s (L p p) L' := by
  obtain ⟨R, h1, h2, h3, h4⟩ := B.ex
  have hpp : L p p = D (p + 1) R := by
    rw [h3 p p (Nat.le_refl _) hp hp]
    exact D_congr fun r c hr hc => by
      have e2 : (if c < p then c else p) = c := by split <;> omega
      rw [e2]
      split
      · rfl
      · have : r = p := by omega
        rw [this]
  refine ⟨⟨R, h1, hpp.symm, fun i j hi hin hj => ?_, h4⟩, B.one, h⟩
  rw [hL i j (by omega) hin hj, h3 p p (Nat.le_refl _) hp hp, h3 i j (by omega) hin hj, h3 i p (by omega) hin hp, h3 p j (Nat.le_refl _) hp hj]
  rw [gx_gy (by rw [h2]; exact B.ne), h2, Int.mul_fdiv_cancel_left _ B.ne]
  unfold gy gx
  refine D_congr fun r c hr hc => ?_
  have ec : cl p p j c = if c < p + 1 then c else j := by unfold cl; grind
  unfold upd
  dsimp only
  rw [ec]
  by_cases a1 : r = p + 1
  · rw [if_pos a1, if_neg (show ¬ r < p + 1 by omega)]
  · rw [if_neg a1, if_pos (show r < p + 1 by omega)]
    by_cases a2 : r = p
    · rw [if_pos a2, a2]
    · rw [if_neg a2]
theorem S_abs {n : Nat} {f : Nat → Int} {m : Nat} (h : ∀ i, i < n → (f i).natAbs ≤ m) : (S n f).natAbs ≤ n * m := by
  induction n with
  | zero => simp [S]
  | succ n ih =>
    have h1 := ih fun i hi => h i (by omega)
    have h2 := h n (by omega)
    show (S n f + f n).natAbs ≤ _
    rw [Nat.succ_mul]
    omega
theorem D_abs {m : Nat} : ∀ {n : Nat} {M : Fn}, n ≤ 8 → (∀ r c, r < n → c < n → (M r c).natAbs ≤ m) → (D n M).natAbs ≤ (8 * m) ^ n
  | 0, _, _, _ => by simp [D]
  | n + 1, M, hn, h => by
    rw [D_succ]
    have key : ∀ j, j < n + 1 → (sg j * M 0 j * D n fun r c => M (r + 1) (sk j c)).natAbs ≤ m * (8 * m) ^ n := fun j hj => by
      have a := D_abs (n := n) (M := fun r c => M (r + 1) (sk j c)) (by omega) fun r c hr hc => h (r + 1) (sk j c) (by omega) (sk_lt hc)
      have b := h 0 j (by omega) hj
      have s : (sg j).natAbs = 1 := by unfold sg; split <;> rfl
      rw [Int.natAbs_mul, Int.natAbs_mul, s, Nat.one_mul]
      exact Nat.mul_le_mul b a
    have e := S_abs key
    refine Nat.le_trans e ?_
    rw [Nat.pow_succ, Nat.mul_comm ((8 * m) ^ n), Nat.mul_assoc]
    have : (n + 1) * (m * (8 * m) ^ n) ≤ 8 * (m * (8 * m) ^ n) := Nat.mul_le_mul_right _ hn
    exact this
theorem Bar.abs {n p m : Nat} {A L : Fn} {s d : Int} (B : Bar n p A m s d L) (hn : n ≤ 8) (hp : p < n) {i j : Nat} (hi : p ≤ i) (hin : i < n) (hj : j < n) : (L i j).natAbs ≤ (8 * m) ^ (p + 1) := by
  obtain ⟨R, h1, h2, h3, h4⟩ := B.ex
  rw [h3 i j hi hin hj]
  refine D_abs (by omega) fun r c hr hc => ?_
  split
  · exact h4 _ _ (by omega) (by split <;> omega)
  · exact h4 _ _ hin (by split <;> omega)
theorem Bar.absd {n p m : Nat} {A L : Fn} {s d : Int} (B : Bar n p A m s d L) (hn : n ≤ 8) (hp : p ≤ n) : d.natAbs ≤ (8 * m) ^ p := by
  obtain ⟨R, h1, h2, h3, h4⟩ := B.ex
  rw [← h2]
  exact D_abs (by omega) fun r c hr hc => h4 r c (by omega) (by omega)
end Mx
namespace Mx
end Mx
namespace Prog
open PySem L2 L3
open PySem.Spec hiding items?
open PyProof.Rows hiding St
theorem mulok_l {i j : Int} (h1 : -(2 ^ 64) < i) (h2 : i < 2 ^ 64) : IntMulOk i j := .of_left (intBits_le_64 h1 h2)
theorem mulok_r {i j : Int} (h1 : -(2 ^ 64) < j) (h2 : j < 2 ^ 64) : IntMulOk i j := .of_right (intBits_le_64 h1 h2)
theorem log2_mono {a b : Nat} (h : a ≤ b) (hb : b.log2 < 9000) (ha : a ≠ 0) : a.log2 < 9000 := by
  have hb0 : b ≠ 0 := by omega
  exact (Nat.log2_lt ha).mpr (Nat.lt_of_le_of_lt h ((Nat.log2_lt hb0).mp hb))
def Any (st : Store) (d : D) : Prop := ∃ t, tyOf? st d = some t
structure Thing (st : Store) (d : D) : Prop where
  any : Any st d
  its : ∀ xs, items? st d = some xs → (∀ x ∈ xs, Any st x) ∧ xs.length ≤ sizeLine
def isInt : D → Bool
  | .int _ => true
  | _ => false
theorem isInt_ty {st : Store} {d : D} {t : String} (h : tyOf? st d = some t) : (t == "int") = isInt d := by
  cases d <;> unfold tyOf? at h <;> first | (cases h; done) | (cases h; rfl) | (simp only at h; split at h <;> first | (cases h; rfl) | cases h)
theorem listed_ty {st : Store} {d : D} {t : String} (h : tyOf? st d = some t) : (t == "list" || t == "tuple") = (items? st d).isSome := by
  cases d <;> unfold tyOf? at h <;> first | (cases h; done) | (cases h; rfl) | (simp only at h; split at h <;> first | (cases h; rename_i q; rw [items_ref q]; rfl) | cases h)
def areNums (st : Store) (d : D) (m : Int) : Bool := match items? st d with
  | some xs => decide ((xs.length : Int) = m) && xs.all isInt
  | none => false
theorem compD_pureR {tg : DTg} {te : DE} {ok : Store → Prop} {σc : DEnv} {st : Store} {K : List D → Store → Prop} {g : D → D} (hok : ok st) : ∀ (xs acc : List D), (∀ x ∈ xs, ∀ K', K' (g x) st → ∃ σ2, tg x σc = some σ2 ∧ te σ2 st K') → K (acc ++ xs.map g) st → compD tg dTrue te ok σc xs acc st K
  | [], acc, _, h => by unfold compD; exact ⟨hok, by simpa using h⟩
  | x :: xs, acc, hx, h => by
    unfold compD
    obtain ⟨σ2, e, q⟩ := hx x List.mem_cons_self (fun y st2 => compD tg dTrue te ok σc xs (acc ++ [y]) st2 K) (compD_pureR hok xs (acc ++ [g x]) (fun y hy => hx y (List.mem_cons_of_mem _ hy)) (by simpa using h))
    exact ⟨hok, σ2, e, q⟩
theorem bools_map {f : D → Bool} : ∀ xs : List D, bools? (xs.map fun x => D.bl (f x)) = some (xs.map f)
  | [] => rfl
  | x :: xs => by simp [bools?, bools_map xs]
abbrev dInts (r : List Int) : List D := r.map D.int
abbrev rowT (r : List Int) : D := .tup (dInts r)
abbrev rowL (r : List Int) : D := .lst (dInts r)
abbrev rowsT (A : List (List Int)) : D := .tup (A.map rowT)
def RowsIn (st : Store) : List D → List (List Int) → Prop
  | [], [] => True
  | d :: ds, r :: rs => items? st d = some (dInts r) ∧ RowsIn st ds rs
  | _, _ => False
structure RowsD (st : Store) (d : D) (A : List (List Int)) : Prop where
  ex : ∃ ds, items? st d = some ds ∧ RowsIn st ds A
theorem RowsIn.len {st : Store} : ∀ {ds : List D} {A : List (List Int)}, RowsIn st ds A → ds.length = A.length
  | [], [], _ => rfl
  | _ :: _, _ :: _, h => by simp [RowsIn.len h.2]
theorem RowsIn.tup {st : Store} : ∀ {A : List (List Int)}, RowsIn st (A.map rowT) A
  | [] => trivial
  | _ :: _ => ⟨rfl, RowsIn.tup⟩
theorem RowsIn.lst {st : Store} : ∀ {A : List (List Int)}, RowsIn st (A.map rowL) A
  | [] => trivial
  | _ :: _ => ⟨rfl, RowsIn.lst⟩
theorem RowsIn.get {st : Store} : ∀ {ds : List D} {A : List (List Int)} {i : Nat} {d : D}, RowsIn st ds A → ds[i]? = some d → ∃ r, A[i]? = some r ∧ items? st d = some (dInts r)
  | _ :: _, r :: _, 0, _, h, e => by simp at e; subst e; exact ⟨r, rfl, h.1⟩
  | _ :: _, _ :: _, i + 1, d, h, e => by
    obtain ⟨r, e1, e2⟩ := RowsIn.get (i := i) (d := d) h.2 (by simpa using e)
    exact ⟨r, by simpa using e1, e2⟩
theorem rowsT_d {st : Store} {A : List (List Int)} : RowsD st (rowsT A) A := ⟨_, rfl, RowsIn.tup⟩
structure Ext (st st' : Store) : Prop where
  len : st.length ≤ st'.length
  same : ∀ m, m < st.length → st'[m]? = st[m]?
theorem Ext.refl {st : Store} : Ext st st := ⟨Nat.le_refl _, fun _ _ => rfl⟩
theorem Ext.trans {st st1 st2 : Store} (a : Ext st st1) (b : Ext st1 st2) : Ext st st2 := ⟨Nat.le_trans a.len b.len, fun m h => (b.same m (Nat.lt_of_lt_of_le h a.len)).trans (a.same m h)⟩
theorem Ext.push {st : Store} {c : List Cell} : Ext st (st ++ c) := ⟨by simp, fun m h => List.getElem?_append_left h⟩
theorem Ext.set {st : Store} {n : Nat} {c : Cell} {st0 : Store} (a : Ext st0 st) (h : st0.length ≤ n) : Ext st0 (st.set n c) := ⟨by rw [List.length_set]; exact a.len, fun m hm => by rw [List.getElem?_set_ne (by omega)]; exact a.same m hm⟩
theorem Ext.items {st st' : Store} {d : D} {xs : List D} (x : Ext st st') (e : items? st d = some xs) : items? st' d = some xs := by
  cases d with
  | ref n =>
    unfold items? at e ⊢
    simp only at e ⊢
    cases q : st[n]? with
    | none => rw [q] at e; cases e
    | some c =>
      have hn := (List.getElem?_eq_some_iff.mp q).1
      rw [x.same n hn]
      exact e
  | _ => exact e
theorem at_ints {r : List Int} {k : Nat} (h : k < r.length) : atI (dInts r) (k : Int) = some (.int (r.getD k 0)) := by
  refine atI_nat ?_
  rw [List.getElem?_map, List.getElem?_eq_getElem h, Mx.getD_lt h]; rfl
theorem getD_mem {r : List Int} {k : Nat} (h : k < r.length) : r.getD k 0 ∈ r := by rw [Mx.getD_lt h]; exact List.getElem_mem _
theorem RowsIn.at {st : Store} {ds : List D} {A : List (List Int)} {k : Nat} (h : RowsIn st ds A) (hk : k < A.length) : ∃ d, atI ds (k : Int) = some d ∧ items? st d = some (dInts (A.getD k [])) := by
  have hl := h.len
  have e : ds[k]? = some ds[k] := List.getElem?_eq_getElem (by omega)
  obtain ⟨r, er, hr⟩ := h.get e
  refine ⟨ds[k], atI_nat e, ?_⟩
  rw [Mx.getD_lt hk]
  rw [List.getElem?_eq_getElem hk] at er
  cases er
  exact hr
theorem ints_app {r : List Int} {x : Int} : dInts r ++ [D.int x] = dInts (r ++ [x]) := by simp [dInts]
theorem rows_app {A : List (List Int)} {r : List Int} : A.map rowT ++ [rowT r] = (A ++ [r]).map rowT := by simp
theorem zip_ints {r s : List Int} {d : D} (h : d ∈ zipD (dInts r) (dInts s)) : ∃ a b, a ∈ r ∧ b ∈ s ∧ d = .tup [.int a, .int b] := by
  obtain ⟨n, hn, e⟩ := List.mem_iff_getElem.mp h
  have e' : (zipD (dInts r) (dInts s))[n]? = some d := by rw [List.getElem?_eq_getElem hn, e]
  obtain ⟨x, y, ex, ey, rfl⟩ := zipD_get e'
  rw [List.getElem?_map] at ex ey
  cases q1 : r[n]? with
  | none => rw [q1] at ex; cases ex
  | some a =>
    cases q2 : s[n]? with
    | none => rw [q2] at ey; cases ey
    | some b =>
      rw [q1] at ex
      rw [q2] at ey
      cases ex
      cases ey
      exact ⟨a, b, List.mem_of_getElem? q1, List.mem_of_getElem? q2, rfl⟩
theorem rep_zero (n : Nat) : (List.replicate n [D.int 0]).flatten = dInts (List.replicate n 0) := by
  induction n with
  | zero => rfl
  | succ n ih => rw [List.replicate_succ, List.flatten_cons, ih]; rfl
theorem ints_back : ∀ r : List Int, (dInts r).map (fun x => match x with | .int i => i | _ => 0) = r
  | [] => rfl
  | a :: r => by rw [dInts, List.map_cons, List.map_cons, ints_back r]
theorem atI_zero {d : D} {ds : List D} : atI (d :: ds) 0 = some d := atI_nat (j := 0) rfl
def intsOf (st : Store) (d : D) : List Int := match items? st d with
  | some xs => xs.map fun x => match x with | .int i => i | _ => 0
  | none => []
theorem intsOf_eq {st : Store} {d : D} {r : List Int} (h : items? st d = some (dInts r)) : intsOf st d = r := by
  unfold intsOf
  rw [h]
  exact ints_back r
theorem zipD_cons {x y : D} {xs ys : List D} : zipD (x :: xs) (y :: ys) = .tup [x, y] :: zipD xs ys := rfl
theorem pl_ints {n : Nat} {r : List Int} : (dInts r).all (pl n) = true := by
  refine List.all_eq_true.mpr fun d hd => ?_
  obtain ⟨i, _, rfl⟩ := List.mem_map.mp hd
  cases n <;> rfl
def S_is_number : DSp := fun ds st K => ∃ d, ds = [d] ∧ Any st d ∧ K (.bl (isInt d)) st
def N_is_number : List Str := ["thing"]
def P_is_number : DS := (dRet (dAndV (dCB xIsi (dCons (dVar 0) (dCons (dC (.ty "int")) dNil))) (dNotV (dTest (dCB xIsi (dCons (dVar 0) (dCons (dC (.ty "bool")) dNil)))))))
theorem sp_is_number : ∀ ds st K, S_is_number ds st K → ds.length = 1 ∧ P_is_number { nx := fun _ st' => K .non st', rt := K } (startD N_is_number ds) st := by
  rintro ds st K ⟨d, rfl, ⟨t, ht⟩, k⟩
  refine ⟨rfl, ?_⟩
  rw [← isInt_ty ht] at k
  have hm := tyOf_mem ht
  refine st_isi ht (by decide) ?_
  simp only [tyNames, List.mem_cons, List.not_mem_nil, or_false] at hm
  rcases hm with rfl | rfl | rfl | rfl | rfl | rfl
  · exact k
  · refine iteT (st_isi ht (by decide) ?_)
    exact k
  · refine iteT (st_isi ht (by decide) ?_)
    exact k
  · exact k
  · exact k
  · exact k
def S_is_listed : DSp := fun ds st K => ∃ d, ds = [d] ∧ Any st d ∧ K (.bl (items? st d).isSome) st
def N_is_listed : List Str := ["thing"]
def P_is_listed : DS := (dRet (dCB xIsi (dCons (dVar 0) (dCons (dTup (dCons (dC (.ty "list")) (dCons (dC (.ty "tuple")) dNil))) dNil))))
theorem sp_is_listed : ∀ ds st K, S_is_listed ds st K → ds.length = 1 ∧ P_is_listed { nx := fun _ st' => K .non st', rt := K } (startD N_is_listed ds) st := by
  rintro ds st K ⟨d, rfl, ⟨t, ht⟩, k⟩
  refine ⟨rfl, ?_⟩
  rw [← listed_ty ht] at k
  have hm := tyOf_mem ht
  refine ⟨Nat.le_of_ble_eq_true rfl, st_isi2 ht rfl (by decide) ?_⟩
  simp only [tyNames, List.mem_cons, List.not_mem_nil, or_false] at hm
  rcases hm with rfl | rfl | rfl | rfl | rfl | rfl <;> exact k
def S_is_listed_of : DSp := fun ds st K => ∃ d m, ds = [d, .int m] ∧ Any st d ∧ K (.bl (match items? st d with | some xs => decide ((xs.length : Int) = m) | none => false)) st
def N_is_listed_of : List Str := ["thing", "many"]
def P_is_listed_of : DS := (dRet (dAndV (dCall S_is_listed (dCons (dVar 0) dNil)) (dOp xEq (dCB xLen (dCons (dVar 0) dNil)) (dVar 1))))
theorem sp_is_listed_of : ∀ ds st K, S_is_listed_of ds st K → ds.length = 2 ∧ P_is_listed_of { nx := fun _ st' => K .non st', rt := K } (startD N_is_listed_of ds) st := by
  rintro ds st K ⟨d, m, rfl, ha, k⟩
  refine ⟨rfl, ?_⟩
  cases e : items? st d with
  | none =>
    rw [e] at k
    exact ⟨d, rfl, ha, by rw [e]; exact k⟩
  | some xs =>
    rw [e] at k
    refine ⟨d, rfl, ha, ?_⟩
    rw [e]
    refine iteT (st_len e (st_eqI ?_))
    exact k
def S_are_numbers : DSp := fun ds st K => ∃ d m, ds = [d, .int m] ∧ Thing st d ∧ K (.bl (areNums st d m)) st
def N_are_numbers : List Str := ["thing", "many"]
def P_are_numbers : DS := (dRet (dAndV (dCall S_is_listed_of (dCons (dVar 0) (dCons (dVar 1) dNil))) (dCB xAll (dCons (dComp (xSeqI (dVar 0)) [none] (tgName 0) dTrue (dCall S_is_number (dCons (dVar 0) dNil))) dNil))))
theorem sp_are_numbers : ∀ ds st K, S_are_numbers ds st K → ds.length = 2 ∧ P_are_numbers { nx := fun _ st' => K .non st', rt := K } (startD N_are_numbers ds) st := by
  rintro ds st K ⟨d, m, rfl, ha, k⟩
  refine ⟨rfl, ?_⟩
  refine ⟨d, m, rfl, ha.any, ?_⟩
  unfold areNums at k
  cases e : items? st d with
  | none => rw [e] at k; exact k
  | some xs =>
    rw [e] at k
    obtain ⟨h1, h2⟩ := ha.its xs e
    by_cases hl : (xs.length : Int) = m
    · simp only [hl, decide_true, Bool.true_and] at k ⊢
      rw [if_pos trivial]
      refine st_seq e fun ok hok => ?_
      refine ⟨h2, compD_pureR (g := fun x => .bl (isInt x)) hok xs [] (fun x hx K' q => ⟨_, rfl, ⟨x, rfl, h1 x hx, q⟩⟩) ?_⟩
      refine st_all (bools_map xs) ?_
      simpa using k
    · simp only [hl, decide_false, Bool.false_and] at k ⊢
      exact k
def S_added : DSp := fun ds st K => ∃ x y t r s, ds = [x, .int t, y] ∧ items? st x = some (dInts r) ∧ items? st y = some (dInts s) ∧ r.length ≤ 1000 ∧ (∀ b ∈ s, IntMulOk t b) ∧ K (rowL (Mx.addM r t s)) st
def N_added : List Str := ["row", "times", "other"]
def P_added : DS := (dRet (dComp (xZip (dCons (dVar 0) (dCons (dVar 2) dNil))) [none, none, some 1] (tgTwo 0 1) dTrue (dOp xAdd (dVar 0) (dOp xMul (dVar 2) (dVar 1)))))
theorem added_map {t : Int} : ∀ (r s : List Int), (zipD (dInts r) (dInts s)).map (fun d => match d with | .tup [.int a, .int b] => .int (a + t * b) | _ => .non) = dInts (Mx.addM r t s)
  | [], _ => rfl
  | _ :: _, [] => rfl
  | a :: r, b :: s => by
    have := added_map (t := t) r s
    unfold zipD Mx.addM at this ⊢
    simp only [dInts, List.map_cons, List.zip_cons_cons, List.zipWith_cons_cons] at this ⊢
    rw [this]
theorem sp_added : ∀ ds st K, S_added ds st K → ds.length = 3 ∧ P_added { nx := fun _ st' => K .non st', rt := K } (startD N_added ds) st := by
  rintro ds st K ⟨x, y, t, r, s, rfl, hx, hy, hl, hm, k⟩
  refine ⟨rfl, ?_⟩
  refine st_zip hx hy fun ok hok => ⟨sz1000 (by rw [zipD_len]; simp; omega), ?_⟩
  refine comp_map (g := fun d => match d with | .tup [.int a, .int b] => .int (a + t * b) | _ => .non) (hok st hx hy) _ (fun d hd K' q => ?_) ?_
  · obtain ⟨a, b, ha, hb, rfl⟩ := zip_ints hd
    exact ⟨_, rfl, st_mul (hm b hb) (st_add q)⟩
  · rw [added_map]; exact k
def S_sum_by : DSp := fun ds st K => ∃ (x y : D) (n : Nat) (ws : List Int) (A : List (List Int)), ds = [x, y, .int n] ∧ items? st x = some (dInts ws) ∧ RowsD st y A ∧ (∀ r ∈ A, r.length = n) ∧ n ≤ 1000 ∧ (∀ w ∈ ws, ∀ r ∈ A, ∀ b ∈ r, IntMulOk w b) ∧ K (rowT (Mx.sumBy ws A (List.replicate n 0))) st
def N_sum_by : List Str := ["weights", "rows", "wide", "total", "weight", "row"]
def P_sum_by : DS := (dSeq (dSet 3 (dOp xMul (dLst (dCons (dC (.int 0)) dNil)) (dVar 2)))
    (dSeq (dFor (xZip (dCons (dVar 0) (dCons (dVar 1) dNil))) (tgTwo 4 5) (dSet 3 (dCall S_added (dCons (dVar 3) (dCons (dVar 4) (dCons (dVar 5) dNil))))))
    (dRet (dCB xTuple (dCons (dVar 3) dNil)))))
theorem sp_sum_by : ∀ ds st K, S_sum_by ds st K → ds.length = 3 ∧ P_sum_by { nx := fun _ st' => K .non st', rt := K } (startD N_sum_by ds) st := by
  rintro ds st K ⟨x, y, n, ws, A, rfl, hx, ⟨dr, hy, hr⟩, hw, hn, hm, k⟩
  refine ⟨rfl, ?_⟩
  refine szL (Nat.le_of_ble_eq_true rfl) (st_mulL ⟨by omega, by omega, sz1000 (by simp; omega)⟩ ?_)
  rw [Int.toNat_natCast, rep_zero]
  refine st_zip hx hy fun ok hok => ?_
  refine for_ind (fun rest σ st' => ∃ (v4 v5 : Option D) (ws' : List Int) (ds' : List D) (A' : List (List Int)) (acc : List Int), st = st' ∧ rest = zipD (dInts ws') ds' ∧ RowsIn st ds' A' ∧ σ = [some x, some y, some (.int n), some (rowL acc), v4, v5] ∧ acc.length = n ∧ (∀ r ∈ A', r ∈ A) ∧ (∀ w ∈ ws', w ∈ ws) ∧ Mx.sumBy ws' A' acc = Mx.sumBy ws A (List.replicate n 0)) ?_ ?_ _ _ _
    ⟨none, none, ws, dr, A, List.replicate n 0, rfl, rfl, hr, rfl, by simp, fun _ h => h, fun _ h => h, rfl⟩
  · rintro σ st1 ⟨v4, v5, ws', ds', A', acc, rfl, he, hr', rfl, hl, _, _, hs⟩
    refine ⟨hok _ hx hy, st_tuple rfl ?_⟩
    have : Mx.sumBy ws' A' acc = acc := by
      match ws', ds', A', hr', he with
      | [], _, _, _, _ => unfold Mx.sumBy; rfl
      | _ :: _, [], [], _, _ => unfold Mx.sumBy; rfl
      | _ :: _, _ :: _, _ :: _, _, he => cases he
    rw [this] at hs
    rw [hs]; exact k
  · rintro d rest σ st1 ⟨v4, v5, ws', ds', A', acc, rfl, he, hr', rfl, hl, ha, hw', hs⟩ next
    match ws', ds', A', hr', he with
    | w :: ws', e :: ds', r :: A', hr', he =>
      simp only [dInts, List.map_cons, zipD_cons, List.cons.injEq] at he
      obtain ⟨rfl, rfl⟩ := he
      refine ⟨hok _ hx hy, _, rfl, ?_⟩
      have hrl := hw r (ha r List.mem_cons_self)
      refine ⟨_, _, _, acc, r, rfl, rfl, hr'.1, by omega, fun b hb => hm w (hw' w List.mem_cons_self) r (ha r List.mem_cons_self) b hb, ?_⟩
      refine next _ _ ⟨_, _, ws', ds', A', Mx.addM acc w r, rfl, rfl, hr'.2, rfl, by rw [Mx.addM_len (by omega)]; exact hl, fun q hq => ha q (List.mem_cons_of_mem _ hq), fun q hq => hw' q (List.mem_cons_of_mem _ hq), ?_⟩
      rw [← hs]; rfl
    | [], _, _, _, he => cases he
    | _ :: _, [], [], _, he => cases he
def S_product : DSp := fun ds st K => ∃ (x y : D) (n : Nat) (A B : List (List Int)), ds = [x, y] ∧ RowsD st x A ∧ RowsD st y B ∧ B ≠ [] ∧ (∀ r ∈ B, r.length = n) ∧ n ≤ 1000 ∧ A.length ≤ 1000 ∧ (∀ w ∈ A, ∀ c ∈ w, ∀ r ∈ B, ∀ b ∈ r, IntMulOk c b) ∧ K (rowsT (Mx.mulM A B n)) st
def N_product : List Str := ["one", "other", "wide"]
def P_product : DS := (dSeq (dSet 2 (dCB xLen (dCons (dOp xIx (dVar 1) (dC (.int 0))) dNil)))
    (dRet (dCB xTuple (dCons (dComp (xSeqI (dVar 0)) [none, some 1, some 2] (tgName 0) dTrue (dCall S_sum_by (dCons (dVar 0) (dCons (dVar 1) (dCons (dVar 2) dNil))))) dNil))))
theorem rows_map {st : Store} {n : Nat} {B : List (List Int)} {f : D → D} : ∀ {ds : List D} {A : List (List Int)}, RowsIn st ds A → (∀ d r, items? st d = some (dInts r) → f d = rowT (Mx.sumBy r B (List.replicate n 0))) → ds.map f = (Mx.mulM A B n).map rowT
  | [], [], _, _ => rfl
  | d :: ds, r :: A, h, hf => by
    rw [List.map_cons, hf d r h.1, rows_map h.2 hf]; rfl
theorem sp_product : ∀ ds st K, S_product ds st K → ds.length = 2 ∧ P_product { nx := fun _ st' => K .non st', rt := K } (startD N_product ds) st := by
  rintro ds st K ⟨x, y, n, A, B, rfl, ⟨da, hx, ra⟩, hy, hB, hw, hn, hl, hm, k⟩
  refine ⟨rfl, ?_⟩
  obtain ⟨db, ey, rb⟩ := hy.ex
  match B, db, rb, hB, hw, hm, hy, k, ey with
  | r0 :: B, d0 :: db, rb, _, hw, hm, hy, k, ey =>
    have h0 : r0.length = n := hw r0 List.mem_cons_self
    refine st_ix ey atI_zero (st_len rb.1 ?_)
    rw [List.length_map, h0]
    refine st_seq hx fun ok hok => ⟨sz1000 (by rw [ra.len]; exact hl), ?_⟩
    refine comp_map (g := fun d => rowT (Mx.sumBy (intsOf st d) (r0 :: B) (List.replicate n 0))) hok da (fun d hd K' q => ?_) ?_
    · obtain ⟨i, hi, ed⟩ := List.mem_iff_getElem.mp hd
      obtain ⟨r, er, hr⟩ := ra.get (i := i) (d := d) (by rw [List.getElem?_eq_getElem hi, ed])
      refine ⟨_, rfl, d, y, n, r, r0 :: B, rfl, hr, hy, hw, hn, fun c hc => hm r (List.mem_of_getElem? er) c hc, ?_⟩
      rw [intsOf_eq hr] at q
      exact q
    · refine st_tuple rfl ?_
      rw [rows_map ra (n := n) (B := r0 :: B) fun d r h => by rw [intsOf_eq h]]
      exact k
  | _ :: _, [], rb, _, _, _, _, _, _ => exact rb.elim
def S_column : DSp := fun ds st K => ∃ (d : D) (A : List (List Int)) (j : Nat), ds = [d, .int j] ∧ RowsD st d A ∧ (∀ r ∈ A, j < r.length) ∧ A.length ≤ 1000 ∧ K (rowT (Mx.colM A j)) st
def N_column : List Str := ["rows", "place"]
def P_column : DS := (dRet (dCB xTuple (dCons (dComp (xSeqI (dVar 0)) [none, some 1] (tgName 0) dTrue (dOp xIx (dVar 0) (dVar 1))) dNil)))
theorem comp_rows {tg : DTg} {te : DE} {ok : Store → Prop} {σc : DEnv} {st : Store} {K : List D → Store → Prop} {ds : List D} {A : List (List Int)} (f : List Int → D) (hok : ok st) (hr : RowsIn st ds A) (hx : ∀ d r, r ∈ A → items? st d = some (dInts r) → ∀ K', K' (f r) st → ∃ σ2, tg d σc = some σ2 ∧ te σ2 st K') (k : K (A.map f) st) : compD tg dTrue te ok σc ds [] st K := by
  refine comp_ind (fun rest acc st' => ∃ (A1 A2 : List (List Int)), st = st' ∧ A1 ++ A2 = A ∧ RowsIn st rest A2 ∧ acc = A1.map f) ?_ ?_ _ _ _ ⟨[], A, rfl, rfl, hr, rfl⟩
  · rintro acc st' ⟨A1, A2, rfl, he, h, rfl⟩
    match A2, h with
    | [], _ =>
      rw [List.append_nil] at he
      subst he
      exact ⟨hok, k⟩
  · rintro d rest acc st' ⟨A1, A2, rfl, he, h, rfl⟩ next
    match A2, h with
    | r :: A2, h =>
      obtain ⟨σ2, e2, q⟩ := hx d r (by rw [← he]; simp) h.1 (fun y st2 => compD tg dTrue te ok σc rest (A1.map f ++ [y]) st2 K) (next _ _ ⟨A1 ++ [r], A2, rfl, by rw [← he]; simp, h.2, by simp⟩)
      exact ⟨hok, σ2, e2, q⟩
theorem colM_ints (A : List (List Int)) (j : Nat) : A.map (fun r => D.int (r.getD j 0)) = dInts (Mx.colM A j) := by unfold Mx.colM dInts; rw [List.map_map]; rfl
theorem sp_column : ∀ ds st K, S_column ds st K → ds.length = 2 ∧ P_column { nx := fun _ st' => K .non st', rt := K } (startD N_column ds) st := by
  rintro ds st K ⟨d, A, j, rfl, ⟨da, hd, ra⟩, hj, hl, k⟩
  refine ⟨rfl, ?_⟩
  refine st_seq hd fun ok hok => ⟨sz1000 (by rw [ra.len]; exact hl), ?_⟩
  refine comp_rows (fun r => .int (r.getD j 0)) hok ra (fun e r hr he K' q => ⟨_, rfl, st_ix he (at_ints (hj r hr)) q⟩) ?_
  rw [colM_ints]
  exact st_tuple rfl k
def S_turned_over : DSp := fun ds st K => ∃ (d : D) (A : List (List Int)) (n : Nat), ds = [d, .int n] ∧ RowsD st d A ∧ (∀ r ∈ A, r.length = n) ∧ A.length ≤ 1000 ∧ n ≤ 1000 ∧ K (rowsT (Mx.trM A n)) st
def N_turned_over : List Str := ["rows", "wide"]
def P_turned_over : DS := (dRet (dCB xTuple (dCons (dComp (xRange1 (dCons (dVar 1) dNil)) [none, some 0] (tgName 0) dTrue (dCall S_column (dCons (dVar 1) (dCons (dVar 0) dNil)))) dNil)))
theorem trM_rows (A : List (List Int)) (n : Nat) : (List.range n).map (fun j => rowT (Mx.colM A j)) = (Mx.trM A n).map rowT := by unfold Mx.trM; rw [List.map_map]; rfl
theorem sp_turned_over : ∀ ds st K, S_turned_over ds st K → ds.length = 2 ∧ P_turned_over { nx := fun _ st' => K .non st', rt := K } (startD N_turned_over ds) st := by
  rintro ds st K ⟨d, A, n, rfl, hd, hw, hl, hn, k⟩
  refine ⟨rfl, ?_⟩
  refine st_rng1 ⟨by omega, by omega⟩ ⟨sz1000 (by rw [rangeD_len]; omega), ?_⟩
  rw [Int.toNat_natCast]
  refine comp_range (fun j => rowT (Mx.colM A j)) n (fun i hi K' q => ⟨_, rfl, d, A, i, rfl, hd, fun r hr => by rw [hw r hr]; exact hi, hl, q⟩) ?_
  rw [trM_rows]
  exact st_tuple rfl k
def S_unit_row : DSp := fun ds st K => ∃ (n i : Nat), ds = [.int n, .int i] ∧ n ≤ 1000 ∧ K (rowT (Mx.unitRow n i)) st
def N_unit_row : List Str := ["n", "place"]
def P_unit_row : DS := (dRet (dCB xTuple (dCons (dComp (xRange1 (dCons (dVar 0) dNil)) [none, some 1] (tgName 0) dTrue (dIf (dTest (dOp xEq (dVar 0) (dVar 1))) (dC (.int 1)) (dC (.int 0)))) dNil)))
theorem sp_unit_row : ∀ ds st K, S_unit_row ds st K → ds.length = 2 ∧ P_unit_row { nx := fun _ st' => K .non st', rt := K } (startD N_unit_row ds) st := by
  rintro ds st K ⟨n, i, rfl, hn, k⟩
  refine ⟨rfl, ?_⟩
  refine st_rng1 ⟨by omega, by omega⟩ ⟨sz1000 (by rw [rangeD_len]; omega), ?_⟩
  rw [Int.toNat_natCast]
  refine comp_range (fun j => .int (Mx.dl j i)) n (fun j hj K' q => ⟨_, rfl, ?_⟩) ?_
  · refine eq2 (fun h => iteT ?_) fun h => ?_
    · have : j = i := by omega
      subst this
      rw [Mx.dl_self] at q; exact q
    · rw [Mx.dl_ne (by omega)] at q; exact q
  · have : (List.range n).map (fun j => D.int (Mx.dl j i)) = dInts (Mx.unitRow n i) := by unfold Mx.unitRow dInts; rw [List.map_map]; rfl
    rw [this]
    exact st_tuple rfl k
def S_unit_rows : DSp := fun ds st K => ∃ (n : Nat), ds = [.int n] ∧ n ≤ 1000 ∧ K (rowsT (Mx.units n)) st
def N_unit_rows : List Str := ["n"]
def P_unit_rows : DS := (dRet (dCB xTuple (dCons (dComp (xRange1 (dCons (dVar 0) dNil)) [none, some 0] (tgName 0) dTrue (dCall S_unit_row (dCons (dVar 1) (dCons (dVar 0) dNil)))) dNil)))
theorem sp_unit_rows : ∀ ds st K, S_unit_rows ds st K → ds.length = 1 ∧ P_unit_rows { nx := fun _ st' => K .non st', rt := K } (startD N_unit_rows ds) st := by
  rintro ds st K ⟨n, rfl, hn, k⟩
  refine ⟨rfl, ?_⟩
  refine st_rng1 ⟨by omega, by omega⟩ ⟨sz1000 (by rw [rangeD_len]; omega), ?_⟩
  rw [Int.toNat_natCast]
  refine comp_range (fun i => rowT (Mx.unitRow n i)) n (fun i hi K' q => ⟨_, rfl, n, i, rfl, hn, q⟩) ?_
  have : (List.range n).map (fun i => rowT (Mx.unitRow n i)) = (Mx.units n).map rowT := by unfold Mx.units; rw [List.map_map]; rfl
  rw [this]
  exact st_tuple rfl k
structure Thing2 (st : Store) (d : D) : Prop where
  any : Any st d
  its : ∀ xs, items? st d = some xs → (∀ x ∈ xs, Thing st x) ∧ xs.length ≤ sizeLine
def manyOk (n : Nat) (m : D) : Bool := match m with
  | .int i => decide ((n : Int) = i)
  | _ => true
def isRows (st : Store) (d m : D) (w : Int) : Bool := match items? st d with
  | some xs => manyOk xs.length m && xs.all fun r => areNums st r w
  | none => false
def S_is_rows : DSp := fun ds st K => ∃ d m w, ds = [d, m, .int w] ∧ Thing2 st d ∧ (m = .non ∨ ∃ i, m = .int i) ∧ K (.bl (isRows st d m w)) st
def N_is_rows : List Str := ["thing", "many", "wide"]
def P_is_rows : DS := (dSeq (dIfS (dNotT (dTest (dCall S_is_listed (dCons (dVar 0) dNil)))) (dRet (dC (.bl false))) dNext)
    (dSeq (dIfS (dAndT (dTest (dOp xIsNt (dVar 1) (dC .non))) (dTest (dOp xNe (dCB xLen (dCons (dVar 0) dNil)) (dVar 1)))) (dRet (dC (.bl false))) dNext)
    (dRet (dCB xAll (dCons (dComp (xSeqI (dVar 0)) [none, some 2] (tgName 0) dTrue (dCall S_are_numbers (dCons (dVar 0) (dCons (dVar 1) dNil)))) dNil)))))
theorem isRows_none {st : Store} {d m : D} {w : Int} (e : items? st d = none) : isRows st d m w = false := by unfold isRows; rw [e]
theorem isRows_some {st : Store} {d m : D} {w : Int} {xs : List D} (e : items? st d = some xs) : isRows st d m w = (manyOk xs.length m && xs.all fun r => areNums st r w) := by unfold isRows; rw [e]
theorem sp_is_rows : ∀ ds st K, S_is_rows ds st K → ds.length = 3 ∧ P_is_rows { nx := fun _ st' => K .non st', rt := K } (startD N_is_rows ds) st := by
  rintro ds st K ⟨d, m, w, rfl, hd, hm, k⟩
  refine ⟨rfl, ?_⟩
  refine ⟨d, rfl, hd.any, ?_⟩
  cases e : items? st d with
  | none => rw [isRows_none e] at k; exact k
  | some xs =>
    rw [isRows_some e] at k
    obtain ⟨h1, h2⟩ := hd.its xs e
    have fin : manyOk xs.length m = true → dRet (dCB xAll (dCons (dComp (xSeqI (dVar 0)) [none, some 2] (tgName 0) dTrue (dCall S_are_numbers (dCons (dVar 0) (dCons (dVar 1) dNil)))) dNil)) { nx := fun _ st' => K .non st', rt := K } (startD N_is_rows [d, m, .int w]) st := by
      intro hk
      rw [hk, Bool.true_and] at k
      refine st_seq e fun ok hok => ⟨h2, comp_map (g := fun r => .bl (areNums st r w)) hok xs (fun x hx K' q => ⟨_, rfl, x, w, rfl, h1 x hx, q⟩) ?_⟩
      refine st_all (bools_map xs) ?_
      simpa using k
    rcases hm with rfl | ⟨i, rfl⟩
    · exact nt_non rfl (fin rfl)
    · refine nt_non rfl (st_len e (ne2 (fun h => ?_) fun h => ?_))
      · have : manyOk xs.length (.int i) = false := decide_eq_false h
        rw [this] at k; exact k
      · exact fin (decide_eq_true h)
theorem pl_rowT {n : Nat} {r : List Int} : pl (n + 1) (rowT r) = true := by
  unfold pl
  exact pl_ints
theorem pl_rowsT {n : Nat} {A : List (List Int)} : pl (n + 2) (rowsT A) = true := by
  unfold pl
  refine List.all_eq_true.mpr fun d hd => ?_
  obtain ⟨r, _, rfl⟩ := List.mem_map.mp hd
  exact pl_rowT
theorem eqDs_ints : ∀ (r s : List Int), eqDs (dInts r) (dInts s) = decide (r = s)
  | [], [] => by unfold eqDs; rfl
  | [], _ :: _ => by unfold eqDs; rfl
  | _ :: _, [] => by unfold eqDs; rfl
  | a :: r, b :: s => by
    have ih := eqDs_ints r s
    unfold dInts at ih ⊢
    rw [List.map_cons, List.map_cons]
    unfold eqDs
    rw [ih]
    unfold eqD
    by_cases h1 : a = b
    · subst h1; simp
    · have : (a == b) = false := by simpa using h1
      rw [this, Bool.false_and]
      exact (decide_eq_false fun h => h1 (List.cons.inj h).1).symm
theorem eqDs_rows : ∀ (A B : List (List Int)), eqDs (A.map rowT) (B.map rowT) = decide (A = B)
  | [], [] => by unfold eqDs; rfl
  | [], _ :: _ => by unfold eqDs; rfl
  | _ :: _, [] => by unfold eqDs; rfl
  | a :: r, b :: s => by
    have ih := eqDs_rows r s
    rw [List.map_cons, List.map_cons]
    unfold eqDs
    rw [ih]
    unfold rowT eqD
    rw [eqDs_ints]
    by_cases h1 : a = b
    · subst h1; simp
    · rw [decide_eq_false h1, Bool.false_and]
      exact (decide_eq_false fun h => h1 (List.cons.inj h).1).symm
theorem eqD_rows (A B : List (List Int)) : eqD (rowsT A) (rowsT B) = decide (A = B) := by
  unfold rowsT eqD
  exact eqDs_rows A B
def rowsOf (st : Store) (d : D) : List (List Int) := match items? st d with
  | some xs => xs.map (intsOf st)
  | none => []
theorem all_ints : ∀ {xs : List D}, xs.all isInt = true → xs = dInts (xs.map fun x => match x with | .int i => i | _ => 0)
  | [], _ => rfl
  | x :: xs, h => by
    rw [List.all_cons, Bool.and_eq_true] at h
    have ih := all_ints h.2
    cases x <;> first | (cases h.1; done) | skip
    rename_i i
    show D.int i :: xs = D.int i :: _
    rw [← dInts, ← ih]
theorem areNums_ints {st : Store} {r : D} {w : Int} (h : areNums st r w = true) : items? st r = some (dInts (intsOf st r)) ∧ ((intsOf st r).length : Int) = w := by
  unfold areNums at h
  cases e : items? st r with
  | none => rw [e] at h; cases h
  | some xs =>
    rw [e] at h
    simp only [Bool.and_eq_true, decide_eq_true_eq] at h
    have e2 := all_ints h.2
    have e3 := intsOf_eq (e.trans (congrArg some e2))
    rw [e3]
    exact ⟨congrArg some e2, by rw [List.length_map]; exact h.1⟩
theorem rowsIn_all {st : Store} {w : Int} : ∀ {xs : List D}, (xs.all fun r => areNums st r w) = true → RowsIn st xs (xs.map (intsOf st))
  | [], _ => trivial
  | x :: xs, h => by
    rw [List.all_cons, Bool.and_eq_true] at h
    exact ⟨(areNums_ints h.1).1, rowsIn_all h.2⟩
theorem isRows_rows {st : Store} {d : D} {n : Nat} (h : isRows st d (.int n) n = true) : RowsD st d (rowsOf st d) ∧ Mx.IsM n n (rowsOf st d) := by
  unfold isRows at h
  cases e : items? st d with
  | none => rw [e] at h; cases h
  | some xs =>
    rw [e] at h
    simp only [Bool.and_eq_true] at h
    have e1 : rowsOf st d = xs.map (intsOf st) := by unfold rowsOf; rw [e]
    rw [e1]
    refine ⟨⟨xs, e, rowsIn_all h.2⟩, ⟨?_, fun r hr => ?_⟩⟩
    · have : ((xs.length : Int) = (n : Int)) := of_decide_eq_true h.1
      rw [List.length_map]; omega
    · obtain ⟨x, hx, rfl⟩ := List.mem_map.mp hr
      have := (areNums_ints (List.all_eq_true.mp h.2 x hx)).2
      omega
structure SmallD (st : Store) (d : D) : Prop where
  le : ∀ xs, items? st d = some xs → xs.length ≤ 1000
  sm : ∀ xs, items? st d = some xs → ∀ x ∈ xs, ∀ ys, items? st x = some ys → ∀ i, D.int i ∈ ys → -(2 ^ 64) < i ∧ i < 2 ^ 64
theorem SmallD.mul {st : Store} {d : D} {n : Nat} (h : SmallD st d) (hr : isRows st d (.int n) n = true) {B : List (List Int)} : ∀ w ∈ rowsOf st d, ∀ c ∈ w, ∀ r ∈ B, ∀ b ∈ r, IntMulOk c b := fun w hw c hc r _ b _ => by
  unfold isRows at hr
  cases e : items? st d with
  | none => rw [e] at hr; cases hr
  | some xs =>
    rw [e] at hr
    simp only [Bool.and_eq_true] at hr
    have e1 : rowsOf st d = xs.map (intsOf st) := by unfold rowsOf; rw [e]
    rw [e1] at hw
    obtain ⟨x, hx, rfl⟩ := List.mem_map.mp hw
    have e2 := (areNums_ints (List.all_eq_true.mp hr.2 x hx)).1
    have := h.sm xs e x hx _ e2 c (List.mem_map.mpr ⟨c, hc, rfl⟩)
    exact mulok_l this.1 this.2
def abk (st : Store) (x y : D) : Bool := match items? st x with
  | some xs => isRows st x (.int (xs.length : Int)) xs.length && isRows st y (.int (xs.length : Int)) xs.length && decide (Mx.mulM (rowsOf st x) (rowsOf st y) xs.length = Mx.units xs.length)
  | none => false
theorem abk_none {st : Store} {x y : D} (e : items? st x = none) : abk st x y = false := by unfold abk; rw [e]
theorem abk_some {st : Store} {x y : D} {xs : List D} (e : items? st x = some xs) : abk st x y = (isRows st x (.int (xs.length : Int)) xs.length && isRows st y (.int (xs.length : Int)) xs.length && decide (Mx.mulM (rowsOf st x) (rowsOf st y) xs.length = Mx.units xs.length)) := by unfold abk; rw [e]
def S_are_back : DSp := fun ds st K => ∃ x y, ds = [x, y] ∧ Thing2 st x ∧ Thing2 st y ∧ SmallD st x ∧ K (.bl (abk st x y)) st
def N_are_back : List Str := ["turn", "back", "many"]
def P_are_back : DS := (dSeq (dIfS (dNotT (dTest (dCall S_is_listed (dCons (dVar 0) dNil)))) (dRet (dC (.bl false))) dNext)
    (dSeq (dSet 2 (dCB xLen (dCons (dVar 0) dNil)))
    (dSeq (dIfS (dOrT (dNotT (dTest (dCall S_is_rows (dCons (dVar 0) (dCons (dVar 2) (dCons (dVar 2) dNil)))))) (dNotT (dTest (dCall S_is_rows (dCons (dVar 1) (dCons (dVar 2) (dCons (dVar 2) dNil))))))) (dRet (dC (.bl false))) dNext)
    (dRet (dOrV (dOp xEq (dVar 2) (dC (.int 0))) (dOp xEq (dCall S_product (dCons (dVar 0) (dCons (dVar 1) dNil))) (dCall S_unit_rows (dCons (dVar 2) dNil))))))))
theorem sp_are_back : ∀ ds st K, S_are_back ds st K → ds.length = 2 ∧ P_are_back { nx := fun _ st' => K .non st', rt := K } (startD N_are_back ds) st := by
  rintro ds st K ⟨x, y, rfl, hx, hy, hs, k⟩
  refine ⟨rfl, ?_⟩
  refine ⟨x, rfl, hx.any, ?_⟩
  cases e : items? st x with
  | none => rw [abk_none e] at k; exact k
  | some xs =>
    rw [abk_some e] at k
    have hn := hs.le xs e
    refine st_len e ?_
    refine ⟨x, _, _, rfl, hx, Or.inr ⟨_, rfl⟩, ?_⟩
    cases e1 : isRows st x (.int (xs.length : Int)) xs.length with
    | false => rw [e1] at k; exact k
    | true =>
      rw [e1] at k
      refine ⟨y, _, _, rfl, hy, Or.inr ⟨_, rfl⟩, ?_⟩
      cases e2 : isRows st y (.int (xs.length : Int)) xs.length with
      | false => rw [e2] at k; exact k
      | true =>
        rw [e2] at k
        obtain ⟨R1, M1⟩ := isRows_rows e1
        obtain ⟨R2, M2⟩ := isRows_rows e2
        have l1 := M1.len
        have l2 := M2.len
        refine eq2 (fun h => ?_) fun h => ?_
        · have h0 : xs.length = 0 := by omega
          have a1 : rowsOf st x = [] := List.length_eq_zero_iff.mp (by omega)
          rw [a1, h0] at k
          exact k
        · have hB : rowsOf st y ≠ [] := fun z => h (by rw [z] at l2; simp at l2; omega)
          refine ⟨x, y, xs.length, _, _, rfl, R1, R2, hB, M2.wid, hn, by omega, hs.mul e1, ?_⟩
          refine ⟨xs.length, rfl, hn, ?_⟩
          refine st_eq pl_rowsT pl_rowsT ?_
          rw [eqD_rows]
          exact k
def S_row_to_divide_by : DSp := fun ds st K => ∃ (d : D) (A : List (List Int)) (n p : Nat), ds = [d, .int p] ∧ RowsD st d A ∧ Mx.IsM n n A ∧ n ≤ 1000 ∧ p < n ∧ ((∀ i, p ≤ i → i < n → Mx.g A i p = 0) → K .non st) ∧ ∀ k : Nat, p ≤ k → k < n → Mx.g A k p ≠ 0 → K (.int k) st
def N_row_to_divide_by : List Str := ["rows", "place", "k"]
def P_row_to_divide_by : DS := (dSeq (dFor (xRange2 (dCons (dVar 1) (dCons (dCB xLen (dCons (dVar 0) dNil)) dNil))) (tgName 2) (dIfS (dTest (dOp xNe (dOp xIx (dOp xIx (dVar 0) (dVar 2)) (dVar 1)) (dC (.int 0)))) (dRet (dVar 2)) dNext))
    (dRet (dC .non)))
theorem for_rangeA {tg : DTg} {body : DS} {E : DEnds} {a : Int} (n : Nat) (I : Nat → DEnv → Store → Prop) (hend : ∀ σ st, I n σ st → E.nx σ st)
    (hstep : ∀ (j : Nat) σ st (rest : List D), j < n → I j σ st → (∀ σ' st', I (j + 1) σ' st' → forD tg body (fun _ => True) E rest σ' st') → ∃ σ1, tg (.int (a + (j : Int))) σ = some σ1 ∧ body { E with nx := forD tg body (fun _ => True) E rest, ct := forD tg body (fun _ => True) E rest, bk := E.nx } σ1 st)
    {σ : DEnv} {st : Store} (h0 : I 0 σ st) : forD tg body (fun _ => True) E (rangeD a n) σ st := by
  refine for_ind (fun rest σ st => ∃ j : Nat, j ≤ n ∧ rest = (List.range (n - j)).map (fun i => D.int (a + ((j + i : Nat) : Int))) ∧ I j σ st) ?_ ?_ _ _ _ ⟨0, Nat.zero_le _, by unfold rangeD; simp, h0⟩
  · rintro σ st ⟨j, hj, hr, hI⟩
    have : n - j = 0 := by
      cases q : n - j with
      | zero => rfl
      | succ m => rw [q, List.range_succ_eq_map] at hr; cases hr
    have hjn : j = n := by omega
    subst hjn
    exact ⟨trivial, hend σ st hI⟩
  · rintro d rest σ st ⟨j, hj, hr, hI⟩ next
    cases q : n - j with
    | zero => rw [q] at hr; cases hr
    | succ m =>
      rw [q, List.range_succ_eq_map, List.map_cons, List.map_map] at hr
      simp only [List.cons.injEq] at hr
      obtain ⟨rfl, hrest⟩ := hr
      refine ⟨trivial, hstep j σ st rest (by omega) hI fun σ' st' h' => next σ' st' ⟨j + 1, by omega, ?_, h'⟩⟩
      have : n - (j + 1) = m := by omega
      rw [this, hrest]
      refine List.map_congr_left fun i _ => ?_
      show D.int (a + ((j + (i + 1) : Nat) : Int)) = D.int (a + ((j + 1 + i : Nat) : Int))
      congr 3; omega
theorem sp_row_to_divide_by : ∀ ds st K, S_row_to_divide_by ds st K → ds.length = 2 ∧ P_row_to_divide_by { nx := fun _ st' => K .non st', rt := K } (startD N_row_to_divide_by ds) st := by
  rintro ds st K ⟨d, A, n, p, rfl, ⟨da, hd, ra⟩, hA, hn, hp, k0, k1⟩
  refine ⟨rfl, ?_⟩
  have hl := hA.len
  have hla := ra.len
  refine st_len hd (st_rng2 ⟨by omega, by omega, by omega, by omega⟩ ?_)
  have em : ((da.length : Int) - (p : Int)).toNat = n - p := by omega
  rw [em]
  refine for_rangeA (n - p) (fun j σ st' => st' = st ∧ ∃ v2, σ = [some d, some (.int (p : Int)), v2] ∧ ∀ i, p ≤ i → i < p + j → Mx.g A i p = 0) ?_ ?_ ⟨rfl, none, rfl, fun i h1 h2 => by omega⟩
  · rintro σ st' ⟨rfl, v2, rfl, h⟩
    exact k0 fun i h1 h2 => h i h1 (by omega)
  · rintro j σ st' rest hj ⟨rfl, v2, rfl, h⟩ next
    refine ⟨_, rfl, ?_⟩
    have e1 : (p : Int) + (j : Int) = ((p + j : Nat) : Int) := by omega
    rw [e1]
    obtain ⟨e, ee, he⟩ := ra.at (k := p + j) (by omega)
    have hr := hA.row (i := p + j) (by omega)
    refine st_ix hd ee (st_ix he (at_ints (by omega)) (ne2 (fun hne => iteT ?_) fun he0 => ?_))
    · exact k1 (p + j) (by omega) (by omega) hne
    · refine next _ _ ⟨rfl, _, rfl, fun i h1 h2 => ?_⟩
      by_cases hi : i = p + j
      · rw [hi]; exact he0
      · exact h i h1 (by omega)
def below (r h : List Int) (p : Nat) (d : Int) : List Int := List.zipWith (fun own above => (h.getD p 0 * own - r.getD p 0 * above).fdiv d) r h
def S_row_below : DSp := fun ds st K => ∃ (x y : D) (r h : List Int) (n p : Nat) (d : Int), ds = [x, y, .int p, .int d] ∧ items? st x = some (dInts r) ∧ items? st y = some (dInts h) ∧ r.length = n ∧ h.length = n ∧ n ≤ 1000 ∧ p < n ∧ d ≠ 0 ∧ d.natAbs.log2 < 9000 ∧ (∀ a ∈ r, ∀ b ∈ h, IntMulOk b a ∧ IntMulOk a b) ∧ K (rowL (below r h p d)) st
def N_row_below : List Str := ["row", "head", "place", "divisor"]
def P_row_below : DS := (dRet (dComp (xZip (dCons (dVar 0) (dCons (dVar 1) dNil))) [none, none, some 1, some 2, some 0, some 3] (tgTwo 0 1) dTrue (dOp xFdiv (dOp xSub (dOp xMul (dOp xIx (dVar 2) (dVar 3)) (dVar 0)) (dOp xMul (dOp xIx (dVar 4) (dVar 3)) (dVar 1))) (dVar 5))))
theorem below_map {a c d : Int} : ∀ (r s : List Int), (zipD (dInts r) (dInts s)).map (fun x => match x with | .tup [.int u, .int v] => .int ((a * u - c * v).fdiv d) | _ => .non) = dInts (List.zipWith (fun own above => (a * own - c * above).fdiv d) r s)
  | [], _ => rfl
  | _ :: _, [] => rfl
  | u :: r, v :: s => by
    have := below_map (a := a) (c := c) (d := d) r s
    unfold zipD at this ⊢
    simp only [dInts, List.map_cons, List.zip_cons_cons, List.zipWith_cons_cons] at this ⊢
    rw [this]
theorem sp_row_below : ∀ ds st K, S_row_below ds st K → ds.length = 4 ∧ P_row_below { nx := fun _ st' => K .non st', rt := K } (startD N_row_below ds) st := by
  rintro ds st K ⟨x, y, r, h, n, p, d, rfl, hx, hy, hr, hh, hn, hp, hd, hd2, hm, k⟩
  refine ⟨rfl, ?_⟩
  have m1 := getD_mem (r := r) (k := p) (by omega)
  have m2 := getD_mem (r := h) (k := p) (by omega)
  refine st_zip hx hy fun ok hok => ⟨sz1000 (by rw [zipD_len, List.length_map]; omega), ?_⟩
  refine comp_map (g := fun x => match x with | .tup [.int u, .int v] => .int ((h.getD p 0 * u - r.getD p 0 * v).fdiv d) | _ => .non) (hok st hx hy) _ (fun e he K' q => ?_) ?_
  · obtain ⟨a, b, ha, hb, rfl⟩ := zip_ints he
    exact ⟨_, rfl, st_ix hy (at_ints (by omega)) (st_mul (hm a ha _ m2).1 (st_ix hx (at_ints (by omega)) (st_mul (hm _ m1 b hb).2 (st_sub (st_fdiv hd hd2 q)))))⟩
  · rw [below_map]; exact k
def B90 : Nat := 1237940039285380274899124224
def BdB (A : List (List Int)) : Prop := ∀ r ∈ A, ∀ x ∈ r, x.natAbs ≤ B90
def S_measure : DSp := fun ds st K => ∃ (d : D) (A : List (List Int)) (n : Nat), ds = [d] ∧ RowsD st d A ∧ Mx.IsM n n A ∧ n ≤ 8 ∧ BdB A ∧ ∀ st', Ext st st' → K (.int (Mx.D n (Mx.g A))) st'
def N_measure : List Str := ["rows", "many", "left", "sign", "divisor", "place", "found", "head", "k"]
def P_measure : DS := (dSeq (dSet 1 (dCB xLen (dCons (dVar 0) dNil)))
    (dSeq (dSet 2 (dCompN (xSeqI (dVar 0)) [none] (tgName 0) dTrue (dCB xList (dCons (dVar 0) dNil))))
    (dSeq (dSet 3 (dC (.int 1)))
    (dSeq (dSet 4 (dC (.int 1)))
    (dSeq (dFor (xRange1 (dCons (dVar 1) dNil)) (tgName 5) (dSeq (dSet 6 (dCall S_row_to_divide_by (dCons (dVar 2) (dCons (dVar 5) dNil))))
    (dSeq (dIfS (dTest (dOp xIs (dVar 6) (dC .non))) (dRet (dC (.int 0))) dNext)
    (dSeq (dSet 7 (dOp xIx (dVar 2) (dVar 6)))
    (dSeq (dIfS (dTest (dOp xNe (dVar 6) (dVar 5))) (dSeq (xSetIx (dVar 2) (dVar 6) (dOp xIx (dVar 2) (dVar 5)))
    (dSeq (xSetIx (dVar 2) (dVar 5) (dVar 7))
    (dSet 3 (dUn xNeg (dVar 3))))) dNext)
    (dSeq (dFor (xRange2 (dCons (dOp xAdd (dVar 5) (dC (.int 1))) (dCons (dVar 1) dNil))) (tgName 8) (xSetIx (dVar 2) (dVar 8) (dCall S_row_below (dCons (dOp xIx (dVar 2) (dVar 8)) (dCons (dVar 7) (dCons (dVar 5) (dCons (dVar 4) dNil)))))))
    (dSet 4 (dOp xIx (dVar 7) (dVar 5)))))))))
    (dRet (dOp xMul (dVar 3) (dVar 4))))))))
theorem g_bdB {A : List (List Int)} {n : Nat} (hA : Mx.IsM n n A) (h : BdB A) : ∀ r c, r < n → c < n → (Mx.g A r c).natAbs ≤ B90 := fun r c hr hc => by
  have hl := hA.len
  have hm : A.getD r [] ∈ A := by rw [Mx.getD_lt (by omega)]; exact List.getElem_mem _
  have hw := hA.wid _ hm
  exact h _ hm _ (getD_mem (by omega))
theorem p41 {p : Nat} (h : p ≤ 8) : (8 * B90) ^ p ≤ 2 ^ 744 := by
  have e : 8 * B90 = 2 ^ 93 := by decide
  rw [e, ← Nat.pow_mul]
  exact Nat.pow_le_pow_right (by decide) (by omega)
theorem bits_le {a : Int} {m : Nat} (h : a.natAbs < 2 ^ m) : Builtin.Int.intBits a ≤ m := by
  unfold Builtin.Int.intBits
  by_cases h0 : a.natAbs = 0
  · have : a = 0 := by omega
    subst this
    simp
  · have := (Nat.log2_lt h0).mpr h
    split <;> omega
theorem mulok_b {a b : Int} (ha : a.natAbs ≤ 2 ^ 744) (hb : b.natAbs ≤ 2 ^ 744) : IntMulOk a b := by
  have l : (2 : Nat) ^ 744 < 2 ^ 745 := Nat.pow_lt_pow_right (by decide) (by decide)
  have l2 : 745 ≤ 2 ^ 20 := by decide
  exact .of_bits (Nat.le_trans (bits_le (Nat.lt_of_le_of_lt ha l)) l2) (Nat.le_trans (bits_le (Nat.lt_of_le_of_lt hb l)) l2)
theorem log_b {a : Int} (ha : a.natAbs ≤ 2 ^ 744) (h0 : a ≠ 0) : a.natAbs.log2 < 9000 := by
  have l : (2 : Nat) ^ 744 < 2 ^ 745 := Nat.pow_lt_pow_right (by decide) (by decide)
  have := (Nat.log2_lt (show a.natAbs ≠ 0 by omega)).mpr (Nat.lt_of_le_of_lt ha l)
  omega
theorem at_rowsL {A : List (List Int)} {k : Nat} (h : k < A.length) : atI (A.map rowL) (k : Int) = some (rowL (A.getD k [])) := by
  refine atI_nat ?_
  rw [List.getElem?_map, List.getElem?_eq_getElem h, Mx.getD_lt h]; rfl
theorem below_len {r h : List Int} {p n : Nat} {d : Int} (hr : r.length = n) (hh : h.length = n) : (below r h p d).length = n := by unfold below; rw [List.length_zipWith]; omega
theorem below_at {r h : List Int} {p n : Nat} {d : Int} (hr : r.length = n) (hh : h.length = n) {c : Nat} (hc : c < n) : (below r h p d).getD c 0 = (h.getD p 0 * r.getD c 0 - r.getD p 0 * h.getD c 0).fdiv d := by
  unfold below
  rw [Mx.getD_lt (by rw [List.length_zipWith]; omega), Mx.getD_lt (show c < r.length by omega), Mx.getD_lt (show c < h.length by omega), List.getElem_zipWith]
theorem g_set {A : List (List Int)} {i : Nat} {r : List Int} (hi : i < A.length) (a c : Nat) : Mx.g (A.set i r) a c = if a = i then r.getD c 0 else Mx.g A a c := Mx.set_at hi a c
theorem getD_setR {A : List (List Int)} {i j : Nat} {r : List Int} (hi : i < A.length) : (A.set i r).getD j [] = if j = i then r else A.getD j [] := by
  rw [List.getD_eq_getElem?_getD, List.getD_eq_getElem?_getD, List.getElem?_set]
  by_cases h : i = j
  · rw [if_pos h, if_pos h.symm, if_pos (by omega)]; rfl
  · rw [if_neg h, if_neg (Ne.symm h)]
theorem one_sign {s : Int} (h : s * s = 1) : s.natAbs ≤ 1 := by
  have : s.natAbs * s.natAbs = 1 := by rw [← Int.natAbs_mul, h]; rfl
  have := Nat.eq_one_of_mul_eq_one_right this
  omega
theorem comp_rowsL {st : Store} {ok : Store → Prop} {K : List D → Store → Prop} {ds : List D} {A : List (List Int)} (hok : ok st) (hr : RowsIn st ds A) (k : K (A.map rowL) st) : compD (tgName 0) dTrue (dCB xList (dCons (dVar 0) dNil)) ok [none] ds [] st K := by
  refine comp_ind (fun rest acc st' => ∃ (A1 A2 : List (List Int)), st = st' ∧ A1 ++ A2 = A ∧ RowsIn st rest A2 ∧ acc = A1.map rowL) ?_ ?_ _ _ _ ⟨[], A, rfl, rfl, hr, rfl⟩
  · rintro acc st' ⟨A1, A2, rfl, he, h, rfl⟩
    have : A2 = [] := by
      have := h.len
      cases A2 with
      | nil => rfl
      | cons a A2 => simp at this
    subst this
    rw [List.append_nil] at he
    subst he
    exact ⟨hok, k⟩
  · rintro d rest acc st' ⟨A1, A2, rfl, he, h, rfl⟩ next
    match A2, h with
    | r :: A2, h =>
      refine ⟨hok, _, rfl, st_list h.1 ?_⟩
      exact next _ _ ⟨A1 ++ [r], A2, rfl, by rw [← he]; simp, h.2, by simp⟩
theorem sp_measure : ∀ ds st K, S_measure ds st K → ds.length = 1 ∧ P_measure { nx := fun _ st' => K .non st', rt := K } (startD N_measure ds) st := by
  rintro ds st K ⟨d, A, n, rfl, ⟨da, hd, ra⟩, hA, hn, hb, k⟩
  refine ⟨rfl, ?_⟩
  have hl := hA.len
  have hla := ra.len
  refine st_len hd ?_
  have en : (da.length : Int) = (n : Int) := by omega
  rw [en]
  refine st_seqE hd fun ok hok => ⟨sz1000 (by omega), comp_rowsL (hok _ hd) ra ?_⟩
  refine st_rng1 ⟨by omega, by omega⟩ ?_
  rw [Int.toNat_natCast]
  refine for_range n (fun p σ st' => ∃ (Lr : List (List Int)) (s dv : Int) (v5 v6 v7 v8 : Option D), σ = [some d, some (.int (n : Int)), some (.ref st.length), some (.int s), some (.int dv), v5, v6, v7, v8] ∧ st'[st.length]? = some (.lst (Lr.map rowL)) ∧ Mx.IsM n n Lr ∧ Mx.Bar n p (Mx.g A) B90 s dv (Mx.g Lr) ∧ Ext st st') ?_ ?_ ⟨A, 1, 1, none, none, none, none, rfl, by simp, hA, Mx.Bar.start (g_bdB hA hb), Ext.push⟩
  · rintro σ st' ⟨Lr, s, dv, v5, v6, v7, v8, rfl, e, hL, B, X⟩
    refine st_mul (mulok_l (by have := one_sign B.one; omega) (by have := one_sign B.one; omega)) ?_
    rw [B.stop]
    exact k st' X
  · rintro p σ st1 rest hp ⟨Lr, s, dv, v5, v6, v7, v8, rfl, e, hL, B, X⟩ next
    have hLl := hL.len
    refine ⟨_, rfl, ?_⟩
    refine ⟨_, Lr, n, p, rfl, ⟨_, items_ref e, RowsIn.lst⟩, hL, by omega, hp, fun hz => ?_, fun q hq hqn hne => ?_⟩
    · refine st_isN rfl (iteT ?_)
      rw [B.none hp hz] at k
      exact k st1 X
    · refine st_isN rfl ?_
      refine st_ix (items_ref e) (at_rowsL (by omega)) ?_
      dsimp only
      refine seq_cut (fun σ' st' => ∃ (Lr : List (List Int)) (s : Int), σ' = [some d, some (.int (n : Int)), some (.ref st.length), some (.int s), some (.int dv), some (.int (p : Int)), some (.int (q : Int)), some (rowL (Lr.getD p [])), v8] ∧ st'[st.length]? = some (.lst (Lr.map rowL)) ∧ Mx.IsM n n Lr ∧ Mx.Bar n p (Mx.g A) B90 s dv (Mx.g Lr) ∧ Ext st st' ∧ Mx.g Lr p p ≠ 0) (fun nx hnx => ?_) ?_
      · refine ne2 (fun hqp => iteT ?_) fun hqp => ?_
        · have hqp2 : p < q := by omega
          refine st_ix (items_ref e) (at_rowsL (by omega)) (st_set e (ixN_at (i := (q : Int)) (by omega) (by rw [List.length_map]; omega)) ?_)
          have hlt := (List.getElem?_eq_some_iff.mp e).1
          refine st_set (List.getElem?_set_self hlt) (ixN_at (i := (p : Int)) (by omega) (by rw [List.length_set, List.length_map]; omega)) ?_
          refine st_neg ?_
          rw [Int.toNat_natCast, Int.toNat_natCast, List.set_set]
          have es : ((Lr.map rowL).set q (rowL (Lr.getD p []))).set p (rowL (Lr.getD q [])) = ((Lr.set q (Lr.getD p [])).set p (Lr.getD q [])).map rowL := by rw [List.map_set, List.map_set]
          rw [es]
          have h1 := hL.row (i := p) (by omega)
          have h2 := hL.row (i := q) (by omega)
          have hg : Mx.g ((Lr.set q (Lr.getD p [])).set p (Lr.getD q [])) = fun r => Mx.g Lr (Mx.sw p q r) := by
            funext r c
            rw [g_set (by rw [List.length_set]; omega), g_set (by omega)]
            unfold Mx.sw Mx.g
            by_cases a1 : r = p
            · rw [if_pos a1, if_pos a1]
            · rw [if_neg a1, if_neg a1]
              by_cases a2 : r = q
              · rw [if_pos a2, if_pos a2]
              · rw [if_neg a2, if_neg a2]
          have hp' : ((Lr.set q (Lr.getD p [])).set p (Lr.getD q [])).getD p [] = Lr.getD q [] := by rw [getD_setR (by rw [List.length_set]; omega), if_pos rfl]
          refine hnx _ _ ⟨(Lr.set q (Lr.getD p [])).set p (Lr.getD q []), -s, by rw [hp']; rfl, List.getElem?_set_self hlt, Mx.set_is (Mx.set_is hL h1) h2, by rw [hg]; exact B.swap hp hqn hqp2, X.set (Nat.le_refl _), ?_⟩
          rw [hg]
          have : Mx.sw p q p = q := by unfold Mx.sw; rw [if_pos rfl]
          dsimp only
          rw [this]
          exact hne
        · have : q = p := by omega
          subst this
          exact hnx _ _ ⟨Lr, s, rfl, e, hL, B, X, hne⟩
      · clear B hL hLl e X hne s
        rintro σ' st2 ⟨Lr, s, rfl, e, hL, B, X, hne⟩
        have hLl := hL.len
        have hh := hL.row (i := p) (by omega)
        refine st_add (st_rng2 ⟨by omega, by omega, by omega, by omega⟩ ?_)
        have em : ((n : Int) - ((p : Int) + 1)).toNat = n - (p + 1) := by omega
        rw [em]
        have hda : dv.natAbs ≤ 2 ^ 744 := Nat.le_trans (B.absd hn (by omega)) (p41 (by omega))
        have habs : ∀ i c, p ≤ i → i < n → c < n → (Mx.g Lr i c).natAbs ≤ 2 ^ 744 := fun i c h1 h2 h3 => Nat.le_trans (B.abs hn hp h1 h2 h3) (p41 (by omega))
        have hmem : ∀ i, p ≤ i → i < n → ∀ a ∈ Lr.getD i [], a.natAbs ≤ 2 ^ 744 := fun i h1 h2 a ha => by
          obtain ⟨c, hc, rfl⟩ := List.mem_iff_getElem.mp ha
          have hw := hL.row (i := i) h2
          have := habs i c h1 h2 (by omega)
          unfold Mx.g at this
          rw [Mx.getD_lt hc] at this
          exact this
        refine for_rangeA (n - (p + 1)) (fun j σ st' => ∃ (Q : List (List Int)) (v8 : Option D), σ = [some d, some (.int (n : Int)), some (.ref st.length), some (.int s), some (.int dv), some (.int (p : Int)), some (.int (q : Int)), some (rowL (Lr.getD p [])), v8] ∧ st'[st.length]? = some (.lst (Q.map rowL)) ∧ Mx.IsM n n Q ∧ Ext st st' ∧ ∀ i, i < n → Q.getD i [] = if p < i ∧ i < p + 1 + j then below (Lr.getD i []) (Lr.getD p []) p dv else Lr.getD i []) ?_ ?_ ⟨Lr, _, rfl, e, hL, X, fun i hi => by rw [if_neg (by omega)]⟩
        · rintro σ st3 ⟨Q, v8, rfl, e3, hQ, X3, hq⟩
          refine st_ix rfl (at_ints (by omega)) ?_
          refine next _ _ ⟨Q, s, Mx.g Lr p p, _, _, _, _, rfl, e3, hQ, B.step hp hne fun i c h1 h2 h3 => ?_, X3⟩
          have hi := hL.row (i := i) h2
          have : Mx.g Q i c = (Q.getD i []).getD c 0 := rfl
          rw [this, hq i h2, if_pos ⟨h1, by omega⟩, below_at hi hh h3]
          rfl
        · rintro j σ st3 rest2 hj ⟨Q, v8, rfl, e3, hQ, X3, hq⟩ next2
          have e1 : (p : Int) + 1 + (j : Int) = ((p + 1 + j : Nat) : Int) := by omega
          rw [e1]
          have hQl := hQ.len
          refine ⟨_, rfl, ?_⟩
          have hQi : Q.getD (p + 1 + j) [] = Lr.getD (p + 1 + j) [] := by rw [hq _ (by omega), if_neg (by omega)]
          have hi := hL.row (i := p + 1 + j) (by omega)
          refine st_ix (items_ref e3) (at_rowsL (by omega)) ?_
          rw [hQi]
          refine ⟨_, _, Lr.getD (p + 1 + j) [], Lr.getD p [], n, p, dv, rfl, rfl, rfl, hi, hh, by omega, hp, B.ne, log_b hda B.ne, fun a ha b hb => ?_, ?_⟩
          · have a1 := hmem (p + 1 + j) (by omega) (by omega) a ha
            have b1 := hmem p (Nat.le_refl _) hp b hb
            exact ⟨mulok_b b1 a1, mulok_b a1 b1⟩
          · refine st_set e3 (ixN_at (i := ((p + 1 + j : Nat) : Int)) (by omega) (by rw [List.length_map]; omega)) ?_
            have hlt := (List.getElem?_eq_some_iff.mp e3).1
            rw [Int.toNat_natCast]
            have es : (Q.map rowL).set (p + 1 + j) (rowL (below (Lr.getD (p + 1 + j) []) (Lr.getD p []) p dv)) = (Q.set (p + 1 + j) (below (Lr.getD (p + 1 + j) []) (Lr.getD p []) p dv)).map rowL := by rw [List.map_set]
            rw [es]
            refine next2 _ _ ⟨_, _, rfl, List.getElem?_set_self hlt, Mx.set_is hQ (below_len hi hh), X3.set (Nat.le_refl _), fun i hin => ?_⟩
            rw [getD_setR (by omega)]
            by_cases hii : i = p + 1 + j
            · rw [if_pos hii, if_pos (by omega), hii]
            · rw [if_neg hii, hq i hin]
              by_cases h2 : p < i ∧ i < p + 1 + j
              · rw [if_pos h2, if_pos (by omega)]
              · rw [if_neg h2, if_neg (by omega)]
def S_common : DSp := fun ds st K => ∃ a b, ds = [.int a, .int b] ∧ K (.int ((Nat.gcd a.natAbs b.natAbs : Nat) : Int)) st
def N_common : List Str := ["one", "other", "great", "small", "rest"]
def P_common : DS := (dSeq (dSet 2 (dCB xAbs (dCons (dVar 0) dNil)))
    (dSeq (dSet 3 (dCB xAbs (dCons (dVar 1) dNil)))
    (dSeq (dWhile (dTest (dOp xNe (dVar 3) (dC (.int 0)))) (dSeq (dSet 4 (dOp xMod (dVar 2) (dVar 3)))
    (dSeq (dSet 2 (dVar 3))
    (dSet 3 (dVar 4)))))
    (dRet (dVar 2)))))
theorem fmod_nat (a b : Nat) : (a : Int).fmod (b : Int) = ((a % b : Nat) : Int) := by
  rw [Int.fmod_eq_emod_of_nonneg _ (Int.natCast_nonneg b)]
  exact (Int.natCast_emod a b).symm
theorem sp_common : ∀ ds st K, S_common ds st K → ds.length = 2 ∧ P_common { nx := fun _ st' => K .non st', rt := K } (startD N_common ds) st := by
  rintro ds st K ⟨a, b, rfl, k⟩
  refine ⟨rfl, ?_⟩
  refine st_abs (st_abs ?_)
  refine ⟨fun m σ st' => ∃ (g s : Nat) (r : Option D), σ = [some (.int a), some (.int b), some (.int g), some (.int s), r] ∧ st' = st ∧ Nat.gcd g s = Nat.gcd a.natAbs b.natAbs ∧ s = m, ⟨b.natAbs, a.natAbs, b.natAbs, none, ?_, rfl, rfl, rfl⟩, ?_⟩
  · rfl
  · rintro m σ st' ⟨g, s, r, rfl, rfl, hg, rfl⟩
    by_cases hs : (s : Int) = 0
    · have hs0 : s = 0 := by omega
      subst hs0
      rw [Nat.gcd_zero_right] at hg
      subst hg
      exact st_ne k
    · have hs0 : 0 < s := by omega
      have hd : (!decide ((s : Int) = 0)) = true := by simp; omega
      refine st_ne ?_
      show if (!decide ((s : Int) = 0)) = true then _ else _
      rw [if_pos hd]
      refine st_mod hs ⟨g % s, Nat.mod_lt _ hs0, s, g % s, some (.int ((g % s : Nat) : Int)), ?_, rfl, ?_, rfl⟩
      · simp [fmod_nat]
      · rw [Nat.gcd_comm, ← Nat.gcd_rec, Nat.gcd_comm]; exact hg
def lowT (t b : Int) : Int := ((if b < 0 then -1 else 1) * t).fdiv ((Nat.gcd t.natAbs b.natAbs : Nat) : Int)
def lowB (t b : Int) : Int := ((if b < 0 then -1 else 1) * b).fdiv ((Nat.gcd t.natAbs b.natAbs : Nat) : Int)
def lowD (t b : Int) : D := .tup [.int (lowT t b), .int (lowB t b)]
def S_part : DSp := fun ds st K => ∃ (t b : Int), ds = [.int t, .int b] ∧ b ≠ 0 ∧ b.natAbs.log2 < 9000 ∧ K (lowD t b) st
def N_part : List Str := ["top", "bottom", "shrink"]
def P_part : DS := (dSeq (dSet 2 (dCall S_common (dCons (dVar 0) (dCons (dVar 1) dNil))))
    (dSeq (dIfS (dTest (dOp xLt (dVar 1) (dC (.int 0)))) (dSet 2 (dUn xNeg (dVar 2))) dNext)
    (dRet (dTup (dCons (dOp xFdiv (dVar 0) (dVar 2)) (dCons (dOp xFdiv (dVar 1) (dVar 2)) dNil))))))
theorem fdiv_neg_dvd {g t : Int} (hg : g ≠ 0) (h : g ∣ t) : t.fdiv (-g) = (-1 * t).fdiv g := by
  obtain ⟨c, rfl⟩ := h
  have e1 : (g * c).fdiv (-g) = -c := by
    have : g * c = (-g) * (-c) := by rw [Int.neg_mul_neg]
    rw [this, Int.mul_fdiv_cancel_left _ (by omega)]
  have e2 : (-1 * (g * c)).fdiv g = -c := by
    have : -1 * (g * c) = g * (-c) := by rw [Int.neg_mul, Int.one_mul, Int.mul_neg]
    rw [this, Int.mul_fdiv_cancel_left _ hg]
  rw [e1, e2]
theorem gcd_dvd_l (t b : Int) : ((Nat.gcd t.natAbs b.natAbs : Nat) : Int) ∣ t := Int.ofNat_dvd_left.mpr (Nat.gcd_dvd_left _ _)
theorem gcd_dvd_r (t b : Int) : ((Nat.gcd t.natAbs b.natAbs : Nat) : Int) ∣ b := Int.ofNat_dvd_left.mpr (Nat.gcd_dvd_right _ _)
theorem sp_part : ∀ ds st K, S_part ds st K → ds.length = 2 ∧ P_part { nx := fun _ st' => K .non st', rt := K } (startD N_part ds) st := by
  rintro ds st K ⟨t, b, rfl, hb, hlog, k⟩
  refine ⟨rfl, ?_⟩
  refine ⟨t, b, rfl, ?_⟩
  have hg0 : Nat.gcd t.natAbs b.natAbs ≠ 0 := fun z => by
    have := Nat.eq_zero_of_gcd_eq_zero_right z
    omega
  have hgl : Nat.gcd t.natAbs b.natAbs ≤ b.natAbs := Nat.le_of_dvd (by omega) (Nat.gcd_dvd_right _ _)
  have hne : ((Nat.gcd t.natAbs b.natAbs : Nat) : Int) ≠ 0 := by omega
  have hlg := log2_mono hgl hlog hg0
  unfold lowD lowT lowB at k
  refine lt2 (fun h => iteT ?_) fun h => ?_
  · rw [if_pos h, ← fdiv_neg_dvd hne (gcd_dvd_l t b), ← fdiv_neg_dvd hne (gcd_dvd_r t b)] at k
    refine st_neg (st_fdiv (by omega) (by rw [Int.natAbs_neg, Int.natAbs_natCast]; exact hlg) (st_fdiv (by omega) (by rw [Int.natAbs_neg, Int.natAbs_natCast]; exact hlg) ?_))
    exact ⟨Nat.le_of_ble_eq_true rfl, k⟩
  · rw [if_neg (by omega), Int.one_mul, Int.one_mul] at k
    refine st_fdiv hne (by rw [Int.natAbs_natCast]; exact hlg) (st_fdiv hne (by rw [Int.natAbs_natCast]; exact hlg) ?_)
    exact ⟨Nat.le_of_ble_eq_true rfl, k⟩
abbrev ofR (q : Rat) : D := .tup [.int q.num, .int ((q.den : Nat) : Int)]
theorem low_rat {t b : Int} (hb : b ≠ 0) : lowD t b = ofR (Rat.divInt t b) := by
  unfold lowD ofR lowT lowB
  have hg : (b.gcd t : Nat) = Nat.gcd t.natAbs b.natAbs := by unfold Int.gcd; rw [Nat.gcd_comm]
  have hs : (if b < 0 then (-1 : Int) else 1) = b.sign := by
    rcases Int.lt_trichotomy b 0 with h | h | h
    · rw [if_pos h, Int.sign_eq_neg_one_of_neg h]
    · exact absurd h hb
    · rw [if_neg (by omega), Int.sign_eq_one_of_pos h]
  have e1 : (Rat.divInt t b).num = ((if b < 0 then (-1 : Int) else 1) * t).fdiv ((Nat.gcd t.natAbs b.natAbs : Nat) : Int) := by
    rw [Rat.num_divInt, hs, hg, Int.fdiv_eq_ediv_of_nonneg _ (Int.natCast_nonneg _)]
  have e2 : (((Rat.divInt t b).den : Nat) : Int) = ((if b < 0 then (-1 : Int) else 1) * b).fdiv ((Nat.gcd t.natAbs b.natAbs : Nat) : Int) := by
    rw [Rat.den_divInt, if_neg hb, hs, hg, Int.fdiv_eq_ediv_of_nonneg _ (Int.natCast_nonneg _), Int.natCast_ediv]
    congr 1
    rw [Int.sign_mul_self]
  rw [e1, e2]
structure Sz (q : Rat) (m : Nat) : Prop where
  num : q.num.natAbs < 2 ^ m
  den : q.den < 2 ^ m
theorem Sz.mono {q : Rat} {m n : Nat} (h : Sz q m) (hmn : m ≤ n) : Sz q n := ⟨Nat.lt_of_lt_of_le h.num (Nat.pow_le_pow_right (by decide) hmn), Nat.lt_of_lt_of_le h.den (Nat.pow_le_pow_right (by decide) hmn)⟩
theorem Sz.of {t b : Int} {m : Nat} (hb : b ≠ 0) (h1 : t.natAbs < 2 ^ m) (h2 : b.natAbs < 2 ^ m) : Sz (Rat.divInt t b) m := by
  have hg : 1 ≤ b.gcd t := by
    have : b.gcd t ≠ 0 := fun z => hb (Int.gcd_eq_zero_iff.mp z).1
    omega
  constructor
  · rw [Rat.num_divInt]
    have : ((b.sign * t) / ((b.gcd t : Nat) : Int)).natAbs ≤ (b.sign * t).natAbs := Int.natAbs_ediv_le_natAbs _ _
    have e : (b.sign * t).natAbs ≤ t.natAbs := by
      rw [Int.natAbs_mul]
      have : b.sign.natAbs ≤ 1 := by rw [Int.natAbs_sign]; split <;> omega
      calc b.sign.natAbs * t.natAbs ≤ 1 * t.natAbs := Nat.mul_le_mul_right _ this
        _ = t.natAbs := Nat.one_mul _
    omega
  · rw [Rat.den_divInt, if_neg hb]
    exact Nat.lt_of_le_of_lt (Nat.div_le_self _ _) h2
theorem pow_split (a b : Nat) : 2 ^ a * 2 ^ b = 2 ^ (a + b) := (Nat.pow_add 2 a b).symm
theorem mul_lt_pow {x y : Int} {a b : Nat} (hx : x.natAbs < 2 ^ a) (hy : y.natAbs < 2 ^ b) : (x * y).natAbs < 2 ^ (a + b) := by
  rw [Int.natAbs_mul, ← pow_split]
  exact Nat.mul_lt_mul'' hx hy
theorem den_nz (q : Rat) : ((q.den : Nat) : Int) ≠ 0 := by have := q.den_nz; omega
theorem rat_eq (q : Rat) : q = Rat.divInt q.num ((q.den : Nat) : Int) := (Rat.num_divInt_den q).symm
theorem add_eq (p q : Rat) : p + q = Rat.divInt (p.num * ((q.den : Nat) : Int) + q.num * ((p.den : Nat) : Int)) (((p.den : Nat) : Int) * ((q.den : Nat) : Int)) := by
  conv => lhs; rw [rat_eq p, rat_eq q]
  rw [Rat.divInt_add_divInt _ _ (den_nz p) (den_nz q)]
theorem sub_eq (p q : Rat) : p - q = Rat.divInt (p.num * ((q.den : Nat) : Int) - q.num * ((p.den : Nat) : Int)) (((p.den : Nat) : Int) * ((q.den : Nat) : Int)) := by
  conv => lhs; rw [rat_eq p, rat_eq q]
  rw [Rat.divInt_sub_divInt _ _ (den_nz p) (den_nz q)]
theorem mul_eq (p q : Rat) : p * q = Rat.divInt (p.num * q.num) (((p.den : Nat) : Int) * ((q.den : Nat) : Int)) := by
  conv => lhs; rw [rat_eq p, rat_eq q]
  rw [Rat.divInt_mul_divInt]
theorem div_eq (p q : Rat) : p / q = Rat.divInt (p.num * ((q.den : Nat) : Int)) (((p.den : Nat) : Int) * q.num) := by
  rw [Rat.div_def, Rat.inv_def]
  conv => lhs; rw [rat_eq p]
  rw [Rat.divInt_mul_divInt]
theorem den_abs (q : Rat) : (((q.den : Nat) : Int)).natAbs = q.den := Int.natAbs_natCast _
theorem add_lt_pow {x y : Int} {a : Nat} (hx : x.natAbs < 2 ^ a) (hy : y.natAbs < 2 ^ a) : (x + y).natAbs < 2 ^ (a + 1) := by
  rw [Nat.pow_succ]
  omega
theorem Sz.add {p q : Rat} {a b : Nat} (hp : Sz p a) (hq : Sz q b) : Sz (p + q) (a + b + 1) := by
  rw [add_eq]
  have h1 := mul_lt_pow hp.num (show (((q.den : Nat) : Int)).natAbs < 2 ^ b by rw [den_abs]; exact hq.den)
  have h2 := mul_lt_pow hq.num (show (((p.den : Nat) : Int)).natAbs < 2 ^ a by rw [den_abs]; exact hp.den)
  rw [Nat.add_comm b a] at h2
  have h3 := mul_lt_pow (show (((p.den : Nat) : Int)).natAbs < 2 ^ a by rw [den_abs]; exact hp.den) (show (((q.den : Nat) : Int)).natAbs < 2 ^ b by rw [den_abs]; exact hq.den)
  exact Sz.of (Int.mul_ne_zero (den_nz p) (den_nz q)) (add_lt_pow h1 h2) (Nat.lt_of_lt_of_le h3 (Nat.pow_le_pow_right (by decide) (by omega)))
theorem Sz.mul {p q : Rat} {a b : Nat} (hp : Sz p a) (hq : Sz q b) : Sz (p * q) (a + b) := by
  rw [mul_eq]
  have h3 := mul_lt_pow (show (((p.den : Nat) : Int)).natAbs < 2 ^ a by rw [den_abs]; exact hp.den) (show (((q.den : Nat) : Int)).natAbs < 2 ^ b by rw [den_abs]; exact hq.den)
  exact Sz.of (Int.mul_ne_zero (den_nz p) (den_nz q)) (mul_lt_pow hp.num hq.num) h3
theorem Sz.div {p q : Rat} {a b : Nat} (hp : Sz p a) (hq : Sz q b) (h0 : q.num ≠ 0) : Sz (p / q) (a + b) := by
  rw [div_eq]
  have h1 := mul_lt_pow hp.num (show (((q.den : Nat) : Int)).natAbs < 2 ^ b by rw [den_abs]; exact hq.den)
  have h3 := mul_lt_pow (show (((p.den : Nat) : Int)).natAbs < 2 ^ a by rw [den_abs]; exact hp.den) hq.num
  exact Sz.of (Int.mul_ne_zero (den_nz p) h0) h1 h3
theorem bits_lt {a : Int} {m : Nat} (h : a.natAbs < 2 ^ m) : Builtin.Int.intBits a ≤ m := by
  unfold Builtin.Int.intBits
  by_cases h0 : a.natAbs = 0
  · have : a = 0 := by omega
    subst this
    simp
  · have := (Nat.log2_lt h0).mpr h
    split <;> omega
theorem mulok_p {a b : Int} {m n : Nat} (ha : a.natAbs < 2 ^ m) (hb : b.natAbs < 2 ^ n) (hm : m ≤ 4000) (hn : n ≤ 4000) : IntMulOk a b := by
  have l : 4000 ≤ 2 ^ 20 := by decide
  exact .of_bits (Nat.le_trans (bits_lt ha) (Nat.le_trans hm l)) (Nat.le_trans (bits_lt hb) (Nat.le_trans hn l))
theorem log_p {a : Int} {m : Nat} (ha : a.natAbs < 2 ^ m) (hm : m ≤ 8999) (h0 : a ≠ 0) : a.natAbs.log2 < 9000 := by
  have := (Nat.log2_lt (show a.natAbs ≠ 0 by omega)).mpr ha
  omega
structure Fq (st : Store) (d : D) (q : Rat) : Prop where
  its : items? st d = some [.int q.num, .int ((q.den : Nat) : Int)]
  sz : Sz q 2000
theorem Fq.a {st : Store} {d : D} {q : Rat} (h : Fq st d q) : q.num.natAbs < 2 ^ 2000 := h.sz.num
theorem Fq.b {st : Store} {d : D} {q : Rat} (h : Fq st d q) : (((q.den : Nat) : Int)).natAbs < 2 ^ 2000 := by rw [den_abs]; exact h.sz.den
theorem Fq.tup {st : Store} {q : Rat} {m : Nat} (h : Sz q m) (hm : m ≤ 2000) : Fq st (ofR q) q := ⟨rfl, h.mono hm⟩
def S_plus : DSp := fun ds st K => ∃ x y p q, ds = [x, y] ∧ Fq st x p ∧ Fq st y q ∧ K (ofR (p + q)) st
def N_plus : List Str := ["one", "other"]
def P_plus : DS := (dRet (dCall S_part (dCons (dOp xAdd (dOp xMul (dOp xIx (dVar 0) (dC (.int 0))) (dOp xIx (dVar 1) (dC (.int 1)))) (dOp xMul (dOp xIx (dVar 1) (dC (.int 0))) (dOp xIx (dVar 0) (dC (.int 1))))) (dCons (dOp xMul (dOp xIx (dVar 0) (dC (.int 1))) (dOp xIx (dVar 1) (dC (.int 1)))) dNil))))
theorem sp_plus : ∀ ds st K, S_plus ds st K → ds.length = 2 ∧ P_plus { nx := fun _ st' => K .non st', rt := K } (startD N_plus ds) st := by
  rintro ds st K ⟨x, y, p, q, rfl, X, Y, k⟩
  refine ⟨rfl, ?_⟩
  have h0 := Int.mul_ne_zero (den_nz p) (den_nz q)
  refine st_ix X.its rfl (st_ix Y.its rfl (st_mul (mulok_p X.a Y.b (by decide) (by decide)) (st_ix Y.its rfl (st_ix X.its rfl (st_mul (mulok_p Y.a X.b (by decide) (by decide)) (st_add ?_))))))
  refine st_ix X.its rfl (st_ix Y.its rfl (st_mul (mulok_p X.b Y.b (by decide) (by decide)) ?_))
  refine ⟨_, _, rfl, h0, log_p (mul_lt_pow X.b Y.b) (by decide) h0, ?_⟩
  rw [low_rat h0, ← add_eq]
  exact k
def S_minus : DSp := fun ds st K => ∃ x y p q, ds = [x, y] ∧ Fq st x p ∧ Fq st y q ∧ K (ofR (p - q)) st
def N_minus : List Str := ["one", "other"]
def P_minus : DS := (dRet (dCall S_part (dCons (dOp xSub (dOp xMul (dOp xIx (dVar 0) (dC (.int 0))) (dOp xIx (dVar 1) (dC (.int 1)))) (dOp xMul (dOp xIx (dVar 1) (dC (.int 0))) (dOp xIx (dVar 0) (dC (.int 1))))) (dCons (dOp xMul (dOp xIx (dVar 0) (dC (.int 1))) (dOp xIx (dVar 1) (dC (.int 1)))) dNil))))
theorem sp_minus : ∀ ds st K, S_minus ds st K → ds.length = 2 ∧ P_minus { nx := fun _ st' => K .non st', rt := K } (startD N_minus ds) st := by
  rintro ds st K ⟨x, y, p, q, rfl, X, Y, k⟩
  refine ⟨rfl, ?_⟩
  have h0 := Int.mul_ne_zero (den_nz p) (den_nz q)
  refine st_ix X.its rfl (st_ix Y.its rfl (st_mul (mulok_p X.a Y.b (by decide) (by decide)) (st_ix Y.its rfl (st_ix X.its rfl (st_mul (mulok_p Y.a X.b (by decide) (by decide)) (st_sub ?_))))))
  refine st_ix X.its rfl (st_ix Y.its rfl (st_mul (mulok_p X.b Y.b (by decide) (by decide)) ?_))
  refine ⟨_, _, rfl, h0, log_p (mul_lt_pow X.b Y.b) (by decide) h0, ?_⟩
  rw [low_rat h0, ← sub_eq]
  exact k
def S_times : DSp := fun ds st K => ∃ x y p q, ds = [x, y] ∧ Fq st x p ∧ Fq st y q ∧ K (ofR (p * q)) st
def N_times : List Str := ["one", "other"]
def P_times : DS := (dRet (dCall S_part (dCons (dOp xMul (dOp xIx (dVar 0) (dC (.int 0))) (dOp xIx (dVar 1) (dC (.int 0)))) (dCons (dOp xMul (dOp xIx (dVar 0) (dC (.int 1))) (dOp xIx (dVar 1) (dC (.int 1)))) dNil))))
theorem sp_times : ∀ ds st K, S_times ds st K → ds.length = 2 ∧ P_times { nx := fun _ st' => K .non st', rt := K } (startD N_times ds) st := by
  rintro ds st K ⟨x, y, p, q, rfl, X, Y, k⟩
  refine ⟨rfl, ?_⟩
  have h0 := Int.mul_ne_zero (den_nz p) (den_nz q)
  refine st_ix X.its rfl (st_ix Y.its rfl (st_mul (mulok_p X.a Y.a (by decide) (by decide)) ?_))
  refine st_ix X.its rfl (st_ix Y.its rfl (st_mul (mulok_p X.b Y.b (by decide) (by decide)) ?_))
  refine ⟨_, _, rfl, h0, log_p (mul_lt_pow X.b Y.b) (by decide) h0, ?_⟩
  rw [low_rat h0, ← mul_eq]
  exact k
def S_over : DSp := fun ds st K => ∃ x y p q, ds = [x, y] ∧ Fq st x p ∧ Fq st y q ∧ q.num ≠ 0 ∧ K (ofR (p / q)) st
def N_over : List Str := ["one", "other"]
def P_over : DS := (dRet (dCall S_part (dCons (dOp xMul (dOp xIx (dVar 0) (dC (.int 0))) (dOp xIx (dVar 1) (dC (.int 1)))) (dCons (dOp xMul (dOp xIx (dVar 0) (dC (.int 1))) (dOp xIx (dVar 1) (dC (.int 0)))) dNil))))
theorem sp_over : ∀ ds st K, S_over ds st K → ds.length = 2 ∧ P_over { nx := fun _ st' => K .non st', rt := K } (startD N_over ds) st := by
  rintro ds st K ⟨x, y, p, q, rfl, X, Y, hq, k⟩
  refine ⟨rfl, ?_⟩
  have h0 := Int.mul_ne_zero (den_nz p) hq
  refine st_ix X.its rfl (st_ix Y.its rfl (st_mul (mulok_p X.a Y.b (by decide) (by decide)) ?_))
  refine st_ix X.its rfl (st_ix Y.its rfl (st_mul (mulok_p X.b Y.a (by decide) (by decide)) ?_))
  refine ⟨_, _, rfl, h0, log_p (mul_lt_pow X.b Y.a) (by decide) h0, ?_⟩
  rw [low_rat h0, ← div_eq]
  exact k
def S_before : DSp := fun ds st K => ∃ x y p q, ds = [x, y] ∧ Fq st x p ∧ Fq st y q ∧ K (.bl (decide (p < q))) st
def N_before : List Str := ["one", "other"]
def P_before : DS := (dRet (dOp xLt (dOp xMul (dOp xIx (dVar 0) (dC (.int 0))) (dOp xIx (dVar 1) (dC (.int 1)))) (dOp xMul (dOp xIx (dVar 1) (dC (.int 0))) (dOp xIx (dVar 0) (dC (.int 1))))))
theorem sp_before : ∀ ds st K, S_before ds st K → ds.length = 2 ∧ P_before { nx := fun _ st' => K .non st', rt := K } (startD N_before ds) st := by
  rintro ds st K ⟨x, y, p, q, rfl, X, Y, k⟩
  refine ⟨rfl, ?_⟩
  refine st_ix X.its rfl (st_ix Y.its rfl (st_mul (mulok_p X.a Y.b (by decide) (by decide)) (st_ix Y.its rfl (st_ix X.its rfl (st_mul (mulok_p Y.a X.b (by decide) (by decide)) (st_lt ?_))))))
  have e : decide (p.num * ((q.den : Nat) : Int) < q.num * ((p.den : Nat) : Int)) = decide (p < q) := decide_eq_decide.mpr (Rat.lt_iff p q).symm
  rw [e]
  exact k
def S_floor_of : DSp := fun ds st K => ∃ x p, ds = [x] ∧ Fq st x p ∧ K (.int (p.num / ((p.den : Nat) : Int))) st
def N_floor_of : List Str := ["one"]
def P_floor_of : DS := (dRet (dOp xFdiv (dOp xIx (dVar 0) (dC (.int 0))) (dOp xIx (dVar 0) (dC (.int 1)))))
theorem sp_floor_of : ∀ ds st K, S_floor_of ds st K → ds.length = 1 ∧ P_floor_of { nx := fun _ st' => K .non st', rt := K } (startD N_floor_of ds) st := by
  rintro ds st K ⟨x, p, rfl, X, k⟩
  refine ⟨rfl, ?_⟩
  refine st_ix X.its rfl (st_ix X.its rfl (st_fdiv (den_nz p) (log_p X.b (by decide) (den_nz p)) ?_))
  rw [Int.fdiv_eq_ediv_of_nonneg _ (Int.natCast_nonneg _)]
  exact k
def S_whole : DSp := fun ds st K => ∃ n, ds = [n] ∧ K (.tup [n, .int 1]) st
def N_whole : List Str := ["n"]
def P_whole : DS := (dRet (dTup (dCons (dVar 0) (dCons (dC (.int 1)) dNil))))
theorem sp_whole : ∀ ds st K, S_whole ds st K → ds.length = 1 ∧ P_whole { nx := fun _ st' => K .non st', rt := K } (startD N_whole ds) st := by
  rintro ds st K ⟨n, rfl, k⟩
  exact ⟨rfl, Nat.le_of_ble_eq_true rfl, k⟩
structure Bx (st : Store) (n : Nat) (b : Int) : Prop where
  ex : ∃ x y z, st[n]? = some (.lst [.int x, .int y, .int z]) ∧ 0 ≤ x ∧ 0 ≤ y ∧ 0 ≤ z ∧ z ≤ b
structure Upd (st : Store) (n : Nat) (st' : Store) : Prop where
  len : st'.length = st.length
  same : ∀ m, m ≠ n → st'[m]? = st[m]?
theorem Upd.refl {st : Store} {n : Nat} : Upd st n st := ⟨rfl, fun _ _ => rfl⟩
theorem Upd.trans {st st1 st2 : Store} {n : Nat} (a : Upd st n st1) (b : Upd st1 n st2) : Upd st n st2 := ⟨b.len.trans a.len, fun m h => (b.same m h).trans (a.same m h)⟩
theorem Upd.set {st : Store} {n : Nat} {c : Cell} : Upd st n (st.set n c) := ⟨List.length_set, fun m h => List.getElem?_set_ne (Ne.symm h)⟩
theorem Bx.mono {st : Store} {n : Nat} {b b' : Int} (h : Bx st n b) (l : b ≤ b') : Bx st n b' := let ⟨x, y, z, e, h1, h2, h3, h4⟩ := h.ex; ⟨x, y, z, e, h1, h2, h3, by omega⟩
def S_law_box : DSp := fun ds st K => ∃ (ns : List Int) (k : Int), ds = [.lst (ns.map .int), .int k] ∧ 0 ≤ k ∧ k ≤ 1000 ∧ ns.length ≤ 63 ∧ ∀ st', Bx st' st.length 7000 → st'.length = st.length + 1 → (∀ m, m < st.length → st'[m]? = st[m]?) → K (.ref st.length) st'
def N_law_box : List Str := ["_law_script", "_law_k", "_law_cell"]
def P_law_box : DS := (dSeq (dSet 2 (dC (.int 0)))
    (dSeq (dIfS (dTest (dOp xLt (dVar 1) (dCB xLen (dCons (dVar 0) dNil)))) (dSet 2 (dOp xIx (dVar 0) (dVar 1))) dNext)
    (dRet (dNew (dCons (dOp xMul (dVar 2) (dCB xInt (dCons (dOp xGe (dVar 2) (dOp xPow (dC (.int 10)) (dC (.int 18)))) dNil))) (dCons (dCB xAbs (dCons (dVar 2) dNil)) (dCons (dOp xMul (dC (.int 7)) (dVar 1)) dNil)))))))
theorem box_end {st : Store} {x y z : Int} (hx : 0 ≤ x) (hy : 0 ≤ y) (hz : 0 ≤ z) (hb : z ≤ 7000) : Bx (st ++ [.lst [.int x, .int y, .int z]]) st.length 7000 := ⟨x, y, z, by simp, hx, hy, hz, hb⟩
theorem atI_map {ns : List Int} {k : Int} (h0 : 0 ≤ k) (h : k < ns.length) : ∃ c, atI (ns.map D.int) k = some (.int c) := by
  have hk : k.toNat < ns.length := by omega
  refine ⟨ns[k.toNat], ?_⟩
  have e : (ns.map D.int)[k.toNat]? = some (.int ns[k.toNat]) := by simp [hk]
  have := atI_nat e
  rw [Int.toNat_of_nonneg h0] at this
  exact this
theorem sp_law_box : ∀ ds st K, S_law_box ds st K → ds.length = 2 ∧ P_law_box { nx := fun _ st' => K .non st', rt := K } (startD N_law_box ds) st := by
  rintro ds st K ⟨ns, k, rfl, hk0, hk1, hl, q⟩
  refine ⟨rfl, ?_⟩
  have fin : ∀ c : Int, dRet (dNew (dCons (dOp xMul (dVar 2) (dCB xInt (dCons (dOp xGe (dVar 2) (dOp xPow (dC (.int 10)) (dC (.int 18)))) dNil))) (dCons (dCB xAbs (dCons (dVar 2) dNil)) (dCons (dOp xMul (dC (.int 7)) (dVar 1)) dNil))))
      { nx := fun _ st' => K .non st', rt := K } [some (.lst (ns.map .int)), some (.int k), some (.int c)] st := by
    intro c
    refine st_pow ⟨by decide, by decide, by decide⟩ (st_ge (st_intB (st_mul (mulok_r ?_ ?_) (st_abs (st_mul (mulok_l (by decide) (by decide)) ⟨Nat.le_of_ble_eq_true rfl, ?_⟩)))))
    · split <;> decide
    · split <;> decide
    · refine q _ (box_end ?_ ?_ ?_ ?_) (by simp) fun m hm => List.getElem?_append_left hm
      · by_cases hc : (10 : Int) ^ (18 : Int).toNat ≤ c
        · have : (0 : Int) ≤ c := Int.le_trans (by decide) hc
          rw [decide_eq_true hc, if_pos rfl]; omega
        · rw [decide_eq_false hc, if_neg Bool.false_ne_true]; omega
      · omega
      · omega
      · omega
  have len : ∀ K', K' (.int ns.length) st → xLen [.lst (ns.map .int)] st K' := fun K' h => st_len rfl (by rw [List.length_map]; exact h)
  refine len _ (st_lt ?_)
  by_cases hlt : k < (ns.length : Int)
  · rw [decide_eq_true hlt]
    obtain ⟨c, e⟩ := atI_map hk0 hlt
    refine iteT (st_ix rfl e ?_)
    exact fin c
  · rw [decide_eq_false hlt]
    exact fin 0
def S_law_take : DSp := fun ds st K => ∃ (n : Nat) (m b : Int), ds = [.ref n, .int m] ∧ Bx st n b ∧ b ≤ 1000000000 ∧ 0 < m ∧ m < 2 ^ 62 ∧ ∀ r st', 0 ≤ r → r < m → Bx st' n (b + 1) → Upd st n st' → K (.int r) st'
def N_law_take : List Str := ["_law_box_here", "_law_many", "_law_digit", "_law_m"]
def P_law_take : DS := (dSeq (dIfS (dTest (dOp xGt (dOp xIx (dVar 0) (dC (.int 0))) (dC (.int 0)))) (dSeq (dSet 2 (dOp xMod (dOp xIx (dVar 0) (dC (.int 0))) (dVar 1)))
    (dSeq (xSetIx (dVar 0) (dC (.int 0)) (dOp xFdiv (dOp xIx (dVar 0) (dC (.int 0))) (dVar 1)))
    (dRet (dVar 2)))) dNext)
    (dSeq (xSetIx (dVar 0) (dC (.int 2)) (dOp xAdd (dOp xIx (dVar 0) (dC (.int 2))) (dC (.int 1))))
    (dSeq (dSet 3 (dOp xAdd (dOp xMod (dOp xIx (dVar 0) (dC (.int 1))) (dC (.int 2305843009213693951))) (dC (.int 3))))
    (dSeq (dSet 3 (dOp xMod (dOp xMul (dVar 3) (dOp xAdd (dC (.int 48271)) (dOp xMul (dOp xIx (dVar 0) (dC (.int 2))) (dOp xIx (dVar 0) (dC (.int 2)))))) (dC (.int 2305843009213693921))))
    (dSeq (dSet 3 (dOp xMod (dOp xMul (dVar 3) (dOp xAdd (dOp xAdd (dOp xMod (dVar 3) (dC (.int 1000003))) (dOp xMul (dOp xIx (dVar 0) (dC (.int 2))) (dC (.int 69621)))) (dC (.int 11)))) (dC (.int 2305843009213693907))))
    (dRet (dOp xMod (dOp xAdd (dOp xFdiv (dOp xMul (dVar 3) (dVar 3)) (dC (.int 97))) (dOp xFdiv (dVar 3) (dC (.int 31)))) (dVar 1))))))))
theorem log_small {m : Int} (h0 : 0 < m) (h : m < 2 ^ 62) : m.natAbs.log2 < 9000 := by
  have : m.natAbs.log2 < 62 := (Nat.log2_lt (by omega)).mpr (by omega)
  omega
theorem sp_law_take : ∀ ds st K, S_law_take ds st K → ds.length = 2 ∧ P_law_take { nx := fun _ st' => K .non st', rt := K } (startD N_law_take ds) st := by
  rintro ds st K ⟨n, m, b, rfl, ⟨x, y, z, e, hx, hy, hz, hb⟩, hb2, hm0, hm1, k⟩
  refine ⟨rfl, ?_⟩
  have hn : n < st.length := (List.getElem?_eq_some_iff.mp e).1
  have it : items? st (.ref n) = some [.int x, .int y, .int z] := items_ref e
  refine st_ix it (by rfl) (st_gt ?_)
  by_cases h : 0 < x
  · rw [decide_eq_true h]
    refine iteT (st_ix it (by rfl) (st_mod (by omega) (st_ix it (by rfl) (st_fdiv (by omega) (log_small hm0 hm1) (st_set e (by rfl) ?_)))))
    refine k _ _ (Int.fmod_nonneg_of_pos _ hm0) (Int.fmod_lt_of_pos _ hm0) ⟨_, _, _, List.getElem?_set_self hn, ?_, hy, hz, by omega⟩ Upd.set
    rw [Int.fdiv_eq_ediv_of_nonneg _ (by omega)]; exact Int.ediv_nonneg hx (by omega)
  · rw [decide_eq_false h]
    refine st_ix it (by rfl) (st_add (st_set e (by rfl) ?_))
    have e2 : (st.set n (.lst ([D.int x, D.int y, D.int z].set 2 (.int (z + 1)))))[n]? = some (.lst [.int x, .int y, .int (z + 1)]) := List.getElem?_set_self hn
    have it2 := items_ref e2
    have z1 : -(2 ^ 64) < z + 1 := by omega
    have z2 : z + 1 < 2 ^ 64 := by omega
    refine st_ix it2 (by rfl) (st_mod (by decide) (st_add ?_))
    have m1 := Int.fmod_nonneg_of_pos y (show (0 : Int) < 2305843009213693951 by decide)
    have m2 := Int.fmod_lt_of_pos y (show (0 : Int) < 2305843009213693951 by decide)
    refine st_ix it2 (by rfl) (st_ix it2 (by rfl) (st_mul (mulok_l z1 z2) (st_add (st_mul (mulok_l (by omega) (by omega)) (st_mod (by decide) ?_)))))
    have u1 := Int.fmod_nonneg_of_pos ((y.fmod 2305843009213693951 + 3) * (48271 + (z + 1) * (z + 1))) (show (0 : Int) < 2305843009213693921 by decide)
    have u2 := Int.fmod_lt_of_pos ((y.fmod 2305843009213693951 + 3) * (48271 + (z + 1) * (z + 1))) (show (0 : Int) < 2305843009213693921 by decide)
    generalize ((y.fmod 2305843009213693951 + 3) * (48271 + (z + 1) * (z + 1))).fmod 2305843009213693921 = u at u1 u2
    refine st_mod (by decide) (st_ix it2 (by rfl) (st_mul (mulok_l z1 z2) (st_add (st_add (st_mul (mulok_l (by omega) (by omega)) (st_mod (by decide) ?_))))))
    have v1 := Int.fmod_nonneg_of_pos (u * (u.fmod 1000003 + (z + 1) * 69621 + 11)) (show (0 : Int) < 2305843009213693907 by decide)
    have v2 := Int.fmod_lt_of_pos (u * (u.fmod 1000003 + (z + 1) * 69621 + 11)) (show (0 : Int) < 2305843009213693907 by decide)
    generalize (u * (u.fmod 1000003 + (z + 1) * 69621 + 11)).fmod 2305843009213693907 = v at v1 v2
    refine st_mul (mulok_l (by omega) (by omega)) (st_fdiv (by decide) (by decide +kernel) (st_fdiv (by decide) (by decide +kernel) (st_add (st_mod (by omega) ?_))))
    exact k _ _ (Int.fmod_nonneg_of_pos _ hm0) (Int.fmod_lt_of_pos _ hm0) ⟨_, _, _, e2, hx, hy, by omega, by omega⟩ Upd.set
def S_law_small : DSp := fun ds st K => ∃ (n : Nat) (b : Int), ds = [.ref n] ∧ Bx st n b ∧ b ≤ 900000000 ∧ ∀ r st', -100 ≤ r → r ≤ 100 → Bx st' n (b + 4) → Upd st n st' → K (.int r) st'
def N_law_small : List Str := ["_law_box_here"]
def P_law_small : DS := (dRet (dOp xIx (dLst (dCons (dOp xSub (dCall S_law_take (dCons (dVar 0) (dCons (dC (.int 7)) dNil))) (dC (.int 3))) (dCons (dOp xSub (dCall S_law_take (dCons (dVar 0) (dCons (dC (.int 19)) dNil))) (dC (.int 9))) (dCons (dOp xSub (dCall S_law_take (dCons (dVar 0) (dCons (dC (.int 201)) dNil))) (dC (.int 100))) (dCons (dC (.int 0)) dNil))))) (dCall S_law_take (dCons (dVar 0) (dCons (dC (.int 4)) dNil)))))
theorem sp_law_small : ∀ ds st K, S_law_small ds st K → ds.length = 1 ∧ P_law_small { nx := fun _ st' => K .non st', rt := K } (startD N_law_small ds) st := by
  rintro ds st K ⟨n, b, rfl, B, hb, k⟩
  refine ⟨rfl, ?_⟩
  refine ⟨n, 7, b, rfl, B, by omega, by decide, by decide, fun r1 st1 a1 a2 B1 U1 => st_sub ?_⟩
  refine ⟨n, 19, b + 1, rfl, B1, by omega, by decide, by decide, fun r2 st2 c1 c2 B2 U2 => st_sub ?_⟩
  refine ⟨n, 201, b + 1 + 1, rfl, B2, by omega, by decide, by decide, fun r3 st3 d1 d2 B3 U3 => st_sub ⟨Nat.le_of_ble_eq_true rfl, ?_⟩⟩
  refine ⟨n, 4, b + 1 + 1 + 1, rfl, B3, by omega, by decide, by decide, fun r4 st4 e1 e2 B4 U4 => ?_⟩
  have U := ((U1.trans U2).trans U3).trans U4
  have B5 := B4.mono (b' := b + 4) (by omega)
  have : r4 = 0 ∨ r4 = 1 ∨ r4 = 2 ∨ r4 = 3 := by omega
  rcases this with rfl | rfl | rfl | rfl
  · exact st_ix rfl rfl (k _ _ (by omega) (by omega) B5 U)
  · exact st_ix rfl rfl (k _ _ (by omega) (by omega) B5 U)
  · exact st_ix rfl rfl (k _ _ (by omega) (by omega) B5 U)
  · exact st_ix rfl rfl (k _ _ (by omega) (by omega) B5 U)
def S_law_number : DSp := fun ds st K => ∃ (n : Nat) (b : Int), ds = [.ref n] ∧ Bx st n b ∧ b ≤ 800000000 ∧ ∀ r st', -1000000000000 < r → r < 1000000000000 → Bx st' n (b + 6) → Upd st n st' → K (.int r) st'
def N_law_number : List Str := ["_law_box_here", "_law_kind"]
def P_law_number : DS := (dSeq (dSet 1 (dCall S_law_take (dCons (dVar 0) (dCons (dC (.int 8)) dNil))))
    (dSeq (dIfS (dTest (dOp xEq (dVar 1) (dC (.int 0)))) (dRet (dOp xAdd (dOp xSub (dCall S_law_take (dCons (dVar 0) (dCons (dOp xSub (dOp xMul (dC (.int 2)) (dOp xPow (dC (.int 10)) (dC (.int 12)))) (dC (.int 1))) dNil))) (dOp xPow (dC (.int 10)) (dC (.int 12)))) (dC (.int 1)))) dNext)
    (dSeq (dIfS (dTest (dOp xEq (dVar 1) (dC (.int 1)))) (dRet (dOp xIx (dLst (dCons (dC (.int 1)) (dCons (dUn xNeg (dC (.int 1))) (dCons (dC (.int 0)) (dCons (dOp xSub (dOp xPow (dC (.int 10)) (dC (.int 12))) (dC (.int 1))) (dCons (dOp xSub (dC (.int 1)) (dOp xPow (dC (.int 10)) (dC (.int 12)))) dNil)))))) (dCall S_law_take (dCons (dVar 0) (dCons (dC (.int 5)) dNil))))) dNext)
    (dRet (dCall S_law_small (dCons (dVar 0) dNil))))))
theorem sp_law_number : ∀ ds st K, S_law_number ds st K → ds.length = 1 ∧ P_law_number { nx := fun _ st' => K .non st', rt := K } (startD N_law_number ds) st := by
  rintro ds st K ⟨n, b, rfl, B, hb, k⟩
  refine ⟨rfl, ?_⟩
  refine ⟨n, 8, b, rfl, B, by omega, by decide, by decide, fun kd st1 a1 a2 B1 U1 => st_eqI ?_⟩
  by_cases h0 : kd = 0
  · rw [decide_eq_true h0]
    refine iteT (st_pow ⟨by decide, by decide, by decide⟩ (st_mul (mulok_l (by decide) (by decide)) (st_sub ?_)))
    refine ⟨n, _, b + 1, rfl, B1, by omega, by decide, by decide, fun r st2 c1 c2 B2 U2 => st_pow ⟨by decide, by decide, by decide⟩ (st_sub (st_add ?_))⟩
    have e : (10 : Int) ^ (12 : Int).toNat = 1000000000000 := by decide
    rw [e] at c2 ⊢
    exact k _ _ (by omega) (by omega) (B2.mono (by omega)) (U1.trans U2)
  · rw [decide_eq_false h0]
    refine st_eqI ?_
    by_cases h1 : kd = 1
    · rw [decide_eq_true h1]
      refine iteT (st_neg (st_pow ⟨by decide, by decide, by decide⟩ (st_sub (st_pow ⟨by decide, by decide, by decide⟩ (st_sub ⟨Nat.le_of_ble_eq_true rfl, ?_⟩)))))
      refine ⟨n, 5, b + 1, rfl, B1, by omega, by decide, by decide, fun r st2 c1 c2 B2 U2 => ?_⟩
      have U := U1.trans U2
      have B5 := B2.mono (b' := b + 6) (by omega)
      have : r = 0 ∨ r = 1 ∨ r = 2 ∨ r = 3 ∨ r = 4 := by omega
      rcases this with rfl | rfl | rfl | rfl | rfl
      · exact st_ix rfl rfl (k _ _ (by decide) (by decide) B5 U)
      · exact st_ix rfl rfl (k _ _ (by decide) (by decide) B5 U)
      · exact st_ix rfl rfl (k _ _ (by decide) (by decide) B5 U)
      · exact st_ix rfl rfl (k _ _ (by decide) (by decide) B5 U)
      · exact st_ix rfl rfl (k _ _ (by decide) (by decide) B5 U)
    · rw [decide_eq_false h1]
      exact ⟨n, b + 1, rfl, B1, by omega, fun r st2 c1 c2 B2 U2 => k _ _ (by omega) (by omega) (B2.mono (by omega)) (U1.trans U2)⟩
def BdM (A : List (List Int)) : Prop := ∀ r ∈ A, ∀ x ∈ r, -1000000000000 < x ∧ x < 1000000000000
def S_law_rows : DSp := fun ds st K => ∃ (n : Nat) (b : Int) (m w : Nat), ds = [.ref n, .int m, .int w] ∧ Bx st n b ∧ b ≤ 600000000 ∧ m ≤ 8 ∧ w ≤ 8 ∧ ∀ A st', Mx.IsM m w A → BdM A → Bx st' n (b + 400) → Upd st n st' → K (rowsT A) st'
def N_law_rows : List Str := ["_law_box_here", "_law_many", "_law_wide"]
def P_law_rows : DS := (dRet (dCB xTuple (dCons (dComp (xRange1 (dCons (dVar 1) dNil)) [none, some 2, some 0] (tgName 0) dTrue (dCB xTuple (dCons (dComp (xRange1 (dCons (dVar 1) dNil)) [none, some 2] (tgName 0) dTrue (dCall S_law_number (dCons (dVar 1) dNil))) dNil))) dNil)))
theorem Bx.ext {st st' : Store} {n : Nat} {b : Int} (B : Bx st n b) (X : Ext st st') : Bx st' n b := by
  obtain ⟨x, y, z, e, r⟩ := B.ex
  exact ⟨x, y, z, (X.same n (List.getElem?_eq_some_iff.mp e).1).trans e, r⟩
theorem bd_mul {A B : List (List Int)} (h : BdM A) : ∀ w ∈ A, ∀ c ∈ w, ∀ r ∈ B, ∀ b ∈ r, IntMulOk c b := fun w hw c hc r _ b _ => mulok_l (by have := h w hw c hc; omega) (by have := h w hw c hc; omega)
theorem comp_row {n w : Nat} {b : Int} {σc : DEnv} {st : Store} {K : List D → Store → Prop} (ei : ∀ d, (σc.set 0 (some d))[1]? = some (some (.ref n))) (B : Bx st n b) (hb : b ≤ 700000000) (hw : w ≤ 8)
    (k : ∀ r st', r.length = w → (∀ x ∈ r, -1000000000000 < x ∧ x < 1000000000000) → Bx st' n (b + 48) → Upd st n st' → K (dInts r) st') :
    compD (tgName 0) dTrue (dCall S_law_number (dCons (dVar 1) dNil)) (fun _ => True) σc (rangeD 0 w) [] st K := by
  refine comp_ind (fun rest acc st' => ∃ r : List Int, acc = dInts r ∧ r.length + rest.length = w ∧ (∀ x ∈ r, -1000000000000 < x ∧ x < 1000000000000) ∧ Bx st' n (b + 6 * r.length) ∧ Upd st n st') ?_ ?_ _ _ _ ⟨[], rfl, by rw [rangeD_len]; simp, by simp, B.mono (by simp), Upd.refl⟩
  · rintro acc st' ⟨r, rfl, hl, hr, B', U⟩
    have hl : r.length = w := by simpa using hl
    exact ⟨trivial, k r st' hl hr (B'.mono (by omega)) U⟩
  · rintro x rest acc st' ⟨r, rfl, hl, hr, B', U⟩ next
    have hl2 : r.length < w := by simp at hl; omega
    refine ⟨trivial, _, rfl, ?_⟩
    show dVar 1 (σc.set 0 (some x)) st' _
    unfold dVar
    rw [ei x]
    refine ⟨n, _, rfl, B', by omega, fun y st2 a1 a2 B2 U2 => ?_⟩
    show compD _ _ _ _ _ _ _ _ _
    rw [ints_app]
    refine next _ _ ⟨r ++ [y], rfl, by simp at hl ⊢; omega, fun z hz => ?_, B2.mono (by simp; omega), U.trans U2⟩
    rcases List.mem_append.mp hz with h | h
    · exact hr z h
    · have : z = y := by simpa using h
      subst this; exact ⟨a1, a2⟩
theorem sp_law_rows : ∀ ds st K, S_law_rows ds st K → ds.length = 3 ∧ P_law_rows { nx := fun _ st' => K .non st', rt := K } (startD N_law_rows ds) st := by
  rintro ds st K ⟨n, b, m, w, rfl, B, hb, hm, hw, k⟩
  refine ⟨rfl, ?_⟩
  refine st_rng1 ⟨by omega, by omega⟩ ⟨sz1000 (by rw [rangeD_len]; omega), ?_⟩
  rw [Int.toNat_natCast]
  refine comp_ind (fun rest acc st' => ∃ A : List (List Int), acc = A.map rowT ∧ A.length + rest.length = m ∧ (∀ r ∈ A, r.length = w) ∧ BdM A ∧ Bx st' n (b + 48 * A.length) ∧ Upd st n st') ?_ ?_ _ _ _ ⟨[], rfl, by rw [rangeD_len]; simp, by simp, fun _ h => by simp at h, B.mono (by simp), Upd.refl⟩
  · rintro acc st' ⟨A, rfl, hl, hA, hBd, B', U⟩
    have hl : A.length = m := by simpa using hl
    exact ⟨trivial, st_tuple rfl (k A st' ⟨hl, hA⟩ hBd (B'.mono (by omega)) U)⟩
  · rintro x rest acc st' ⟨A, rfl, hl, hA, hBd, B', U⟩ next
    have hl2 : A.length < m := by simp at hl; omega
    refine ⟨trivial, _, rfl, ?_⟩
    refine st_rng1 ⟨by omega, by omega⟩ ⟨sz1000 (by rw [rangeD_len]; omega), ?_⟩
    rw [Int.toNat_natCast]
    refine comp_row (n := n) (fun d => rfl) B' (by omega) hw fun r st2 hr1 hr2 B2 U2 => ?_
    refine st_tuple rfl ?_
    show compD _ _ _ _ _ _ _ _ _
    rw [rows_app]
    refine next _ _ ⟨A ++ [r], rfl, by simp at hl ⊢; omega, fun q hq => ?_, fun q hq => ?_, B2.mono (by simp; omega), U.trans U2⟩
    · rcases List.mem_append.mp hq with h | h
      · exact hA q h
      · have : q = r := by simpa using h
        subst this; exact hr1
    · rcases List.mem_append.mp hq with h | h
      · exact hBd q h
      · have : q = r := by simpa using h
        subst this; exact hr2
def S_law_size : DSp := fun ds st K => ∃ (n : Nat) (b : Int), ds = [.ref n] ∧ Bx st n b ∧ b ≤ 900000000 ∧ ∀ r st', 1 ≤ r → r ≤ 8 → Bx st' n (b + 2) → Upd st n st' → K (.int r) st'
def N_law_size : List Str := ["_law_box_here"]
def P_law_size : DS := (dRet (dOp xAdd (dC (.int 1)) (dCall S_law_take (dCons (dVar 0) (dCons (dOp xIx (dLst (dCons (dC (.int 4)) (dCons (dC (.int 8)) dNil))) (dCB xInt (dCons (dOp xEq (dCall S_law_take (dCons (dVar 0) (dCons (dC (.int 8)) dNil))) (dC (.int 0))) dNil))) dNil)))))
theorem sp_law_size : ∀ ds st K, S_law_size ds st K → ds.length = 1 ∧ P_law_size { nx := fun _ st' => K .non st', rt := K } (startD N_law_size ds) st := by
  rintro ds st K ⟨n, b, rfl, B, hb, k⟩
  refine ⟨rfl, ?_⟩
  refine ⟨Nat.le_of_ble_eq_true rfl, ?_⟩
  refine ⟨n, 8, b, rfl, B, by omega, by decide, by decide, fun r1 st1 a1 a2 B1 U1 => ?_⟩
  have fin : ∀ m : Int, 0 < m → m ≤ 8 → S_law_take [.ref n, .int m] st1 (fun y st2 => xAdd (.int 1) y st2 K) := fun m h1 h2 =>
    ⟨n, m, b + 1, rfl, B1, by omega, h1, by omega, fun r2 st2 c1 c2 B2 U2 => st_add (k _ _ (by omega) (by omega) (B2.mono (by omega)) (U1.trans U2))⟩
  refine eq2 (fun h => st_intB (st_ix rfl rfl (fin 8 (by decide) (by decide)))) fun h => st_intB (st_ix rfl rfl (fin 4 (by decide) (by decide)))
def S_law_lowest : DSp := fun ds st K => ∃ (t b : Int), ds = [.int t, .int b] ∧ b ≠ 0 ∧ b.natAbs.log2 < 9000 ∧ K (.tup [.int (lowT t b), .int (lowB t b)]) st
def N_law_lowest : List Str := ["_law_top", "_law_bottom", "_law_one", "_law_other", "_law_sign"]
def P_law_lowest : DS := (dSeq (dPar 2 3 (dCons (dCB xAbs (dCons (dVar 0) dNil)) (dCons (dCB xAbs (dCons (dVar 1) dNil)) dNil)))
    (dSeq (dWhile (dTest (dOp xGt (dVar 3) (dC (.int 0)))) (dPar 2 3 (dCons (dVar 3) (dCons (dOp xMod (dVar 2) (dVar 3)) dNil))))
    (dSeq (dSet 4 (dOp xSub (dC (.int 1)) (dOp xMul (dC (.int 2)) (dCB xInt (dCons (dOp xLt (dVar 1) (dC (.int 0))) dNil)))))
    (dRet (dTup (dCons (dOp xFdiv (dOp xMul (dVar 4) (dVar 0)) (dVar 2)) (dCons (dOp xFdiv (dOp xMul (dVar 4) (dVar 1)) (dVar 2)) dNil)))))))
theorem sp_law_lowest : ∀ ds st K, S_law_lowest ds st K → ds.length = 2 ∧ P_law_lowest { nx := fun _ st' => K .non st', rt := K } (startD N_law_lowest ds) st := by
  rintro ds st K ⟨t, b, rfl, hb, hlog, k⟩
  refine ⟨rfl, ?_⟩
  refine st_abs (st_abs ?_)
  refine ⟨fun m σ st' => ∃ (g s : Nat), σ = [some (.int t), some (.int b), some (.int g), some (.int s), none] ∧ st' = st ∧ Nat.gcd g s = Nat.gcd t.natAbs b.natAbs ∧ s = m, ⟨b.natAbs, t.natAbs, b.natAbs, rfl, rfl, rfl, rfl⟩, ?_⟩
  rintro m σ st' ⟨g, s, rfl, rfl, hg, rfl⟩
  refine st_gt ?_
  by_cases hs : (0 : Int) < s
  · rw [decide_eq_true hs]
    refine iteT (st_mod (by omega) ⟨g % s, Nat.mod_lt _ (by omega), s, g % s, ?_, rfl, ?_, rfl⟩)
    · simp [fmod_nat]
    · rw [Nat.gcd_comm, ← Nat.gcd_rec, Nat.gcd_comm]; exact hg
  · rw [decide_eq_false hs]
    have hs0 : s = 0 := by omega
    subst hs0
    rw [Nat.gcd_zero_right] at hg
    subst hg
    have hg0 : Nat.gcd t.natAbs b.natAbs ≠ 0 := fun z => by
      have := Nat.eq_zero_of_gcd_eq_zero_right z
      omega
    have hgl : Nat.gcd t.natAbs b.natAbs ≤ b.natAbs := Nat.le_of_dvd (by omega) (Nat.gcd_dvd_right _ _)
    have hne : ((Nat.gcd t.natAbs b.natAbs : Nat) : Int) ≠ 0 := by omega
    have hlg : ((Nat.gcd t.natAbs b.natAbs : Nat) : Int).natAbs.log2 < 9000 := by
      rw [Int.natAbs_natCast]
      exact log2_mono hgl hlog hg0
    refine st_lt (st_intB (st_mul (mulok_l (by decide) (by decide)) (st_sub ?_)))
    have es : (1 : Int) - 2 * (if decide (b < 0) = true then 1 else 0) = (if b < 0 then -1 else 1) := by
      by_cases h : b < 0
      · simp [h]
      · simp [h]
    rw [es]
    have sm1 : -(2 ^ 64) < (if b < 0 then (-1 : Int) else 1) := by split <;> decide
    have sm2 : (if b < 0 then (-1 : Int) else 1) < 2 ^ 64 := by split <;> decide
    refine st_mul (mulok_l sm1 sm2) (st_fdiv hne hlg (st_mul (mulok_l sm1 sm2) (st_fdiv hne hlg ⟨Nat.le_of_ble_eq_true rfl, ?_⟩)))
    exact k
def S_law_fraction : DSp := fun ds st K => ∃ (n : Nat) (b : Int), ds = [.ref n] ∧ Bx st n b ∧ b ≤ 700000000 ∧ ∀ q st', Sz q 41 → Bx st' n (b + 12) → Upd st n st' → K (ofR q) st'
def N_law_fraction : List Str := ["_law_box_here"]
def P_law_fraction : DS := (dRet (dCall S_law_lowest (dCons (dCall S_law_number (dCons (dVar 0) dNil)) (dCons (dOp xAdd (dC (.int 1)) (dCB xAbs (dCons (dCall S_law_number (dCons (dVar 0) dNil)) dNil))) dNil))))
theorem sp_law_fraction : ∀ ds st K, S_law_fraction ds st K → ds.length = 1 ∧ P_law_fraction { nx := fun _ st' => K .non st', rt := K } (startD N_law_fraction ds) st := by
  rintro ds st K ⟨n, b, rfl, B, hb, k⟩
  refine ⟨rfl, ?_⟩
  refine ⟨n, b, rfl, B, by omega, fun r1 st1 a1 a2 B1 U1 => ?_⟩
  refine ⟨n, b + 6, rfl, B1, by omega, fun r2 st2 c1 c2 B2 U2 => st_abs (st_add ?_)⟩
  have hp : 1 + ((r2.natAbs : Nat) : Int) ≠ 0 := by omega
  have hlg : (1 + ((r2.natAbs : Nat) : Int)).natAbs.log2 < 64 := (Nat.log2_lt (by omega)).mpr (by omega)
  refine ⟨_, _, rfl, hp, by omega, ?_⟩
  have e : D.tup [.int (lowT r1 (1 + ((r2.natAbs : Nat) : Int))), .int (lowB r1 (1 + ((r2.natAbs : Nat) : Int)))] = ofR (Rat.divInt r1 (1 + ((r2.natAbs : Nat) : Int))) := low_rat hp
  rw [e]
  exact k _ _ (Sz.of hp (by omega) (by omega)) (B2.mono (by omega)) (U1.trans U2)
abbrev cInts (r : List Int) : Cell := .lst (dInts r)
def refsD (b n : Nat) : List D := (List.range n).map fun i => .ref (b + i)
theorem refsD_app {b n : Nat} : refsD b n ++ [.ref (b + n)] = refsD b (n + 1) := by unfold refsD; rw [List.range_succ, List.map_append]; rfl
structure XU (st : Store) (n : Nat) (st' : Store) : Prop where
  len : st.length ≤ st'.length
  same : ∀ m, m < st.length → m ≠ n → st'[m]? = st[m]?
theorem XU.refl {st : Store} {n : Nat} : XU st n st := ⟨Nat.le_refl _, fun _ _ _ => rfl⟩
theorem XU.trans {st st1 st2 : Store} {n : Nat} (a : XU st n st1) (b : XU st1 n st2) : XU st n st2 := ⟨Nat.le_trans a.len b.len, fun m h g => (b.same m (Nat.lt_of_lt_of_le h a.len) g).trans (a.same m h g)⟩
theorem XU.upd {st st1 : Store} {n : Nat} (a : Upd st n st1) : XU st n st1 := ⟨by rw [a.len]; exact Nat.le_refl _, fun m _ g => a.same m g⟩
theorem XU.ext {st st1 : Store} {n : Nat} (a : Ext st st1) : XU st n st1 := ⟨a.len, fun m h _ => a.same m h⟩
theorem XU.set {st st1 : Store} {n k : Nat} {c : Cell} (a : XU st n st1) (h : st.length ≤ k) : XU st n (st1.set k c) := ⟨by rw [List.length_set]; exact a.len, fun m hm g => by rw [List.getElem?_set_ne (by omega)]; exact a.same m hm g⟩
theorem Bx.lt {st : Store} {n : Nat} {b : Int} (B : Bx st n b) : n < st.length := by
  obtain ⟨_, _, _, e, _⟩ := B.ex
  exact (List.getElem?_eq_some_iff.mp e).1
def S_law_turn : DSp := fun ds st K => ∃ (n : Nat) (b : Int) (m : Nat) (s : Int), ds = [.ref n, .int m, .int s] ∧ Bx st n b ∧ b ≤ 600000000 ∧ 1 ≤ m ∧ m ≤ 8 ∧ 0 ≤ s ∧ s ≤ 16 ∧ ∀ T B st', Mx.TB m T B → Mx.Bd (3 ^ 16) T → Mx.Bd (3 ^ 16) B → Bx st' n (b + 64) → XU st n st' → K (.tup [rowsT T, rowsT B]) st'
def N_law_turn : List Str := ["_law_box_here", "_law_n", "_law_steps", "_law_turn_here", "_law_back", "_law_k", "_law_i", "_law_j", "_law_by", "_law_row"]
def P_law_turn : DS := (dSeq (dSet 3 (dCompN (xRange1 (dCons (dVar 1) dNil)) [none, some 1] (tgName 0) dTrue (dComp (xRange1 (dCons (dVar 1) dNil)) [none, some 0] (tgName 0) dTrue (dCB xInt (dCons (dOp xEq (dVar 1) (dVar 0)) dNil)))))
    (dSeq (dSet 4 (dComp (xRange1 (dCons (dVar 1) dNil)) [none, some 1] (tgName 0) dTrue (dCompN (xRange1 (dCons (dVar 1) dNil)) [none, some 0] (tgName 0) dTrue (dCB xInt (dCons (dOp xEq (dVar 1) (dVar 0)) dNil)))))
    (dSeq (dFor (xRange1 (dCons (dVar 2) dNil)) (tgName 5) (dSeq (dSet 6 (dCall S_law_take (dCons (dVar 0) (dCons (dVar 1) dNil))))
    (dSeq (dSet 7 (dOp xMod (dOp xAdd (dOp xAdd (dVar 6) (dC (.int 1))) (dCall S_law_take (dCons (dVar 0) (dCons (dCB xMax (dCons (dC (.int 1)) (dCons (dOp xSub (dVar 1) (dC (.int 1))) dNil))) dNil)))) (dVar 1)))
    (dSeq (dSet 8 (dOp xSub (dCall S_law_take (dCons (dVar 0) (dCons (dC (.int 5)) dNil))) (dC (.int 2))))
    (dSeq (dIfS (dOrT (dTest (dOp xEq (dVar 6) (dVar 7))) (dTest (dOp xEq (dVar 8) (dC (.int 0))))) (dSeq (xSetIx (dVar 3) (dVar 6) (dComp (xSeqI (dOp xIx (dVar 3) (dVar 6))) [none] (tgName 0) dTrue (dUn xNeg (dVar 0))))
    (dFor (xSeqI (dVar 4)) (tgName 9) (xSetIx (dVar 9) (dVar 6) (dUn xNeg (dOp xIx (dVar 9) (dVar 6)))))) (dSeq (xSetIx (dVar 3) (dVar 7) (dComp (xZip (dCons (dOp xIx (dVar 3) (dVar 7)) (dCons (dOp xIx (dVar 3) (dVar 6)) dNil))) [none, none, some 8] (tgTwo 0 1) dTrue (dOp xAdd (dVar 0) (dOp xMul (dVar 2) (dVar 1)))))
    (dFor (xSeqI (dVar 4)) (tgName 9) (xSetIx (dVar 9) (dVar 6) (dOp xSub (dOp xIx (dVar 9) (dVar 6)) (dOp xMul (dVar 8) (dOp xIx (dVar 9) (dVar 7))))))))
    (dIfS (dTest (dOp xEq (dCall S_law_take (dCons (dVar 0) (dCons (dC (.int 3)) dNil))) (dC (.int 0)))) (dSeq (dAsg2 (tgPair (tgSub (dVar 3) (dVar 6)) (tgSub (dVar 3) (dVar 7))) (dTup (dCons (dOp xIx (dVar 3) (dVar 7)) (dCons (dOp xIx (dVar 3) (dVar 6)) dNil))))
    (dFor (xSeqI (dVar 4)) (tgName 9) (dAsg2 (tgPair (tgSub (dVar 9) (dVar 6)) (tgSub (dVar 9) (dVar 7))) (dTup (dCons (dOp xIx (dVar 9) (dVar 7)) (dCons (dOp xIx (dVar 9) (dVar 6)) dNil)))))) dNext))))))
    (dRet (dTup (dCons (dCB xTuple (dCons (dComp (xSeqI (dVar 3)) [none] (tgName 0) dTrue (dCB xTuple (dCons (dVar 0) dNil))) dNil)) (dCons (dCB xTuple (dCons (dComp (xSeqI (dVar 4)) [none] (tgName 0) dTrue (dCB xTuple (dCons (dVar 0) dNil))) dNil)) dNil)))))))
theorem comp_rangeS {tg : DTg} {te : DE} {σc : DEnv} {st : Store} {K : List D → Store → Prop} (n : Nat) (I : Nat → List D → Store → Prop) (hend : ∀ acc st, I n acc st → K acc st)
    (hstep : ∀ (j : Nat) acc st, j < n → I j acc st → ∀ K' : DK, (∀ y st', I (j + 1) (acc ++ [y]) st' → K' y st') → ∃ σ2, tg (.int (j : Int)) σc = some σ2 ∧ te σ2 st K') (h0 : I 0 [] st) : compD tg dTrue te (fun _ => True) σc (rangeD 0 n) [] st K := by
  refine comp_ind (fun rest acc st => ∃ j : Nat, j ≤ n ∧ rest = (List.range (n - j)).map (fun i => D.int (((j + i : Nat) : Int))) ∧ I j acc st) ?_ ?_ _ _ _ ⟨0, Nat.zero_le _, by unfold rangeD; simp, h0⟩
  · rintro acc st ⟨j, hj, hr, hI⟩
    have : n - j = 0 := by
      cases q : n - j with
      | zero => rfl
      | succ m => rw [q, List.range_succ_eq_map] at hr; cases hr
    have hjn : j = n := by omega
    subst hjn
    exact ⟨trivial, hend acc st hI⟩
  · rintro d rest acc st ⟨j, hj, hr, hI⟩ next
    cases q : n - j with
    | zero => rw [q] at hr; cases hr
    | succ m =>
      rw [q, List.range_succ_eq_map, List.map_cons, List.map_map] at hr
      simp only [List.cons.injEq] at hr
      obtain ⟨rfl, hrest⟩ := hr
      obtain ⟨σ2, e2, h2⟩ := hstep j acc st (by omega) hI (fun y st2 => compD tg dTrue te (fun _ => True) σc rest (acc ++ [y]) st2 K) fun y st' h' => next _ _ ⟨j + 1, by omega, by
        have : n - (j + 1) = m := by omega
        rw [this, hrest]
        refine List.map_congr_left fun i _ => ?_
        show D.int (((j + (i + 1) : Nat) : Int)) = D.int (((j + 1 + i : Nat) : Int))
        congr 2; omega, h'⟩
      exact ⟨trivial, σ2, e2, h2⟩
theorem comp_rows6 {tg : DTg} {te : DE} {ok : Store → Prop} {σc : DEnv} {st : Store} {K : List D → Store → Prop} {ds : List D} {A : List (List Int)} (f : List Int → D) (hok : ok st) (hr : RowsIn st ds A) (hx : ∀ d r, r ∈ A → items? st d = some (dInts r) → ∀ K', K' (f r) st → ∃ σ2, tg d σc = some σ2 ∧ te σ2 st K') (k : K (A.map f) st) : compD tg dTrue te ok σc ds [] st K := by
  refine comp_ind (fun rest acc st' => ∃ (A1 A2 : List (List Int)), st = st' ∧ A1 ++ A2 = A ∧ RowsIn st rest A2 ∧ acc = A1.map f) ?_ ?_ _ _ _ ⟨[], A, rfl, rfl, hr, rfl⟩
  · rintro acc st' ⟨A1, A2, rfl, he, h, rfl⟩
    match A2, h with
    | [], _ =>
      rw [List.append_nil] at he
      subst he
      exact ⟨hok, k⟩
  · rintro d rest acc st' ⟨A1, A2, rfl, he, h, rfl⟩ next
    match A2, h with
    | r :: A2, h =>
      obtain ⟨σ2, e2, q⟩ := hx d r (by rw [← he]; simp) h.1 (fun y st2 => compD tg dTrue te ok σc rest (A1.map f ++ [y]) st2 K) (next _ _ ⟨A1 ++ [r], A2, rfl, by rw [← he]; simp, h.2, by simp⟩)
      exact ⟨hok, σ2, e2, q⟩
theorem refsD_succ {b n : Nat} : refsD b (n + 1) = .ref b :: refsD (b + 1) n := by
  unfold refsD
  rw [List.range_succ_eq_map, List.map_cons, List.map_map]
  congr 1
  refine List.map_congr_left fun i _ => ?_
  show D.ref (b + (i + 1)) = D.ref (b + 1 + i)
  congr 1; omega
theorem refs_rows {st : Store} : ∀ {A : List (List Int)} {b : Nat}, (∀ i r, A[i]? = some r → st[b + i]? = some (cInts r)) → RowsIn st (refsD b A.length) A
  | [], _, _ => trivial
  | r :: A, b, h => by
    rw [List.length_cons, refsD_succ]
    exact ⟨items_ref (h 0 r rfl), refs_rows fun i q e => by
      have := h (i + 1) q (by simpa using e)
      rw [show b + 1 + i = b + (i + 1) by omega]; exact this⟩
theorem ints_set {r : List Int} {i : Nat} {x : Int} : (dInts r).set i (.int x) = dInts (r.set i x) := (List.map_set ..).symm
theorem rows_set {T : List (List Int)} {i : Nat} {r : List Int} : (T.map rowL).set i (rowL r) = (T.set i r).map rowL := (List.map_set ..).symm
theorem neg_ints (r : List Int) : (dInts r).map (fun d => match d with | .int x => .int (-x) | _ => .non) = dInts (r.map fun x => -x) := by unfold dInts; rw [List.map_map, List.map_map]; rfl
structure TSt (st : Store) (n m : Nat) (bx : Option Cell) (st' : Store) (T B : List (List Int)) : Prop where
  lt : n < st.length
  bn : st'[n]? = bx
  len : st'.length = st.length + 1 + m
  out : ∀ k, k < st.length → k ≠ n → st'[k]? = st[k]?
  tc : st'[st.length]? = some (.lst (T.map rowL))
  bc : ∀ i r, B[i]? = some r → st'[st.length + 1 + i]? = some (cInts r)
theorem Bx.cell {st st' : Store} {n : Nat} {b : Int} (B : Bx st n b) (e : st'[n]? = st[n]?) : Bx st' n b := by
  obtain ⟨x, y, z, e1, r⟩ := B.ex
  exact ⟨x, y, z, e.trans e1, r⟩
theorem TSt.upd {st st' st2 : Store} {n m : Nat} {bx : Option Cell} {T B : List (List Int)} (h : TSt st n m bx st' T B) (hn : n < st.length) (U : Upd st' n st2) : TSt st n m (st2[n]?) st2 T B where
  lt := hn
  bn := rfl
  len := U.len.trans h.len
  out := fun k h1 h2 => (U.same k h2).trans (h.out k h1 h2)
  tc := (U.same _ (by omega)).trans h.tc
  bc := fun i r e => (U.same _ (by omega)).trans (h.bc i r e)
theorem TSt.setT {st st' : Store} {n m : Nat} {bx : Option Cell} {T B T' : List (List Int)} (h : TSt st n m bx st' T B) : TSt st n m bx (st'.set st.length (.lst (T'.map rowL))) T' B where
  lt := h.lt
  bn := by have := h.lt; rw [List.getElem?_set_ne (by omega)]; exact h.bn
  len := by rw [List.length_set]; exact h.len
  out := fun k h1 h2 => by rw [List.getElem?_set_ne (by omega)]; exact h.out k h1 h2
  tc := by
    have := h.len
    rw [List.getElem?_set_self (by omega)]
  bc := fun i r e => by rw [List.getElem?_set_ne (by omega)]; exact h.bc i r e
theorem TSt.setB {st st' : Store} {n m i : Nat} {bx : Option Cell} {T B : List (List Int)} {r : List Int} (h : TSt st n m bx st' T B) (hi : i < m) (hB : B.length = m) : TSt st n m bx (st'.set (st.length + 1 + i) (cInts r)) T (B.set i r) where
  lt := h.lt
  bn := by have := h.lt; rw [List.getElem?_set_ne (by omega)]; exact h.bn
  len := by rw [List.length_set]; exact h.len
  out := fun k h1 h2 => by rw [List.getElem?_set_ne (by omega)]; exact h.out k h1 h2
  tc := by rw [List.getElem?_set_ne (by omega)]; exact h.tc
  bc := fun q s e => by
    have := h.len
    by_cases hq : q = i
    · subst hq
      rw [List.getElem?_set_self (by omega)] at e
      cases e
      rw [List.getElem?_set_self (by omega)]
    · rw [List.getElem?_set_ne (Ne.symm hq)] at e
      rw [List.getElem?_set_ne (by omega)]
      exact h.bc q s e
theorem back_loop {st : Store} {n m : Nat} {bx : Option Cell} {T B0 : List (List Int)} {f : List Int → List Int} {a0 a1 a2 a3 a4 a5 a6 a7 a8 : Option D} {E : DEnds} {body : DS}
    (hb : ∀ (r : List Int) (c : Nat) (st2 : Store) (E' : DEnds), r ∈ B0 → st2[c]? = some (cInts r) → E'.nx [a0, a1, a2, a3, a4, a5, a6, a7, a8, some (.ref c)] (st2.set c (cInts (f r))) → body E' [a0, a1, a2, a3, a4, a5, a6, a7, a8, some (.ref c)] st2) :
    ∀ (B2 B1 : List (List Int)) (v9 : Option D) (st2 : Store), (∀ r ∈ B2, r ∈ B0) → TSt st n m bx st2 T (B1.map f ++ B2) → B1.length + B2.length = m → (∀ v9 st3, TSt st n m bx st3 T ((B1 ++ B2).map f) → E.nx [a0, a1, a2, a3, a4, a5, a6, a7, a8, v9] st3) →
      forD (tgName 9) body (fun _ => True) E (refsD (st.length + 1 + B1.length) B2.length) [a0, a1, a2, a3, a4, a5, a6, a7, a8, v9] st2
  | [], B1, v9, st2, _, h, _, k => by
    unfold refsD
    rw [List.length_nil, List.range_zero, List.map_nil]
    unfold forD
    exact ⟨trivial, k v9 st2 (by simpa using h)⟩
  | r :: B2, B1, v9, st2, hm, h, hl, k => by
    rw [List.length_cons, refsD_succ]
    unfold forD
    refine ⟨trivial, _, rfl, ?_⟩
    refine hb r _ st2 _ (hm r List.mem_cons_self) (h.bc B1.length r (by simp)) ?_
    have h2 := h.setB (i := B1.length) (r := f r) (by simp at hl; omega) (by simp at hl ⊢; omega)
    have e : (B1.map f ++ r :: B2).set B1.length (f r) = (B1 ++ [r]).map f ++ B2 := by simp
    rw [e] at h2
    have := back_loop hb B2 (B1 ++ [r]) (some (.ref (st.length + 1 + B1.length))) _ (fun q hq => hm q (List.mem_cons_of_mem _ hq)) h2 (by simp at hl ⊢; omega) fun w st3 h3 => k w st3 (by simpa using h3)
    rw [show st.length + 1 + (B1 ++ [r]).length = st.length + 1 + B1.length + 1 by simp; omega] at this
    exact this
theorem back_loop0 {st st2 : Store} {n m : Nat} {bx : Option Cell} {T B : List (List Int)} (f : List Int → List Int) {a0 a1 a2 a3 a4 a5 a6 a7 a8 v9 : Option D} {E : DEnds} {body : DS} (h : TSt st n m bx st2 T B) (hl : B.length = m)
    (hb : ∀ (r : List Int) (c : Nat) (st2 : Store) (E' : DEnds), r ∈ B → st2[c]? = some (cInts r) → E'.nx [a0, a1, a2, a3, a4, a5, a6, a7, a8, some (.ref c)] (st2.set c (cInts (f r))) → body E' [a0, a1, a2, a3, a4, a5, a6, a7, a8, some (.ref c)] st2)
    (k : ∀ v9 st3, TSt st n m bx st3 T (B.map f) → E.nx [a0, a1, a2, a3, a4, a5, a6, a7, a8, v9] st3) : forD (tgName 9) body (fun _ => True) E (refsD (st.length + 1) m) [a0, a1, a2, a3, a4, a5, a6, a7, a8, v9] st2 := by
  have := back_loop hb B [] v9 st2 (fun _ h => h) h (by simpa using hl) k
  rw [hl] at this
  exact this
theorem unit_cell {i j : Nat} {st : Store} {K : DK} (q : K (.int (Mx.dl j i)) st) : xEq (.int (i : Int)) (.int (j : Int)) st fun d st1 => xInt [d] st1 K := by
  refine eq2 (fun h => st_intB ?_) fun h => st_intB ?_
  · have : j = i := by omega
    subst this
    rw [Mx.dl_self] at q; exact q
  · rw [Mx.dl_ne (by omega)] at q; exact q
theorem unit_ints (m i : Nat) : (List.range m).map (fun j => D.int (Mx.dl j i)) = dInts (Mx.unitRow m i) := by unfold Mx.unitRow dInts; rw [List.map_map]; rfl
theorem sp_law_turn : ∀ ds st K, S_law_turn ds st K → ds.length = 3 ∧ P_law_turn { nx := fun _ st' => K .non st', rt := K } (startD N_law_turn ds) st := by
  rintro ds st K ⟨n, b, m, s, rfl, B0, hb, hm1, hm8, hs0, hs, k⟩
  refine ⟨rfl, ?_⟩
  have hn := B0.lt
  refine st_rng1 ⟨by omega, by omega⟩ ⟨sz1000 (by rw [rangeD_len]; omega), ?_⟩
  rw [Int.toNat_natCast]
  refine comp_range (fun i => rowL (Mx.unitRow m i)) m (fun i hi K' q => ⟨_, rfl, ?_⟩) ?_
  · refine st_rng1 ⟨by omega, by omega⟩ ⟨sz1000 (by rw [rangeD_len]; omega), ?_⟩
    rw [Int.toNat_natCast]
    refine comp_range (fun j => .int (Mx.dl j i)) m (fun j hj K' q => ⟨_, rfl, unit_cell q⟩) ?_
    rw [unit_ints]; exact q
  have e1 : (List.range m).map (fun i => rowL (Mx.unitRow m i)) = (Mx.units m).map rowL := by unfold Mx.units; rw [List.map_map]; rfl
  rw [e1]
  refine st_rng1 ⟨by omega, by omega⟩ ⟨sz1000 (by rw [rangeD_len]; omega), ?_⟩
  rw [Int.toNat_natCast]
  refine comp_rangeS m (fun j acc st' => acc = refsD (st.length + 1) j ∧ st' = st ++ [.lst ((Mx.units m).map rowL)] ++ (List.range j).map fun i => cInts (Mx.unitRow m i)) ?_ ?_ ⟨rfl, by simp⟩
  rotate_left
  · rintro j acc st' hj ⟨rfl, rfl⟩ K' q
    refine ⟨_, rfl, ?_⟩
    refine st_rng1 ⟨by omega, by omega⟩ ⟨sz1000 (by rw [rangeD_len]; omega), ?_⟩
    rw [Int.toNat_natCast]
    refine comp_range (fun i => .int (Mx.dl i j)) m (fun i hi K' q => ⟨_, rfl, unit_cell q⟩) ?_
    rw [unit_ints]
    refine q _ _ ⟨?_, ?_⟩
    · rw [← refsD_app]
      congr 3
      simp; omega
    · rw [List.range_succ, List.map_append, List.append_assoc, List.append_assoc, List.append_assoc]; rfl
  rintro acc st1 ⟨rfl, rfl⟩
  refine st_rng1 ⟨by omega, by omega⟩ ?_
  have h0 : TSt st n m ((st ++ [.lst ((Mx.units m).map rowL)] ++ (List.range m).map fun i => cInts (Mx.unitRow m i))[n]?) (st ++ [.lst ((Mx.units m).map rowL)] ++ (List.range m).map fun i => cInts (Mx.unitRow m i)) (Mx.units m) (Mx.units m) := by
    refine ⟨hn, rfl, by simp; omega, fun q h1 _ => ?_, ?_, fun i r e => ?_⟩
    · rw [List.append_assoc, List.getElem?_append_left h1]
    · rw [List.append_assoc, List.getElem?_append_right (Nat.le_refl _)]; simp
    · rw [List.getElem?_append_right (by simp)]
      unfold Mx.units at e
      simp only [List.length_append, List.length_cons, List.length_nil]
      rw [show st.length + 1 + i - (st.length + (0 + 1)) = i by omega]
      rw [List.getElem?_map] at e ⊢
      cases q : (List.range m)[i]? with
      | none => rw [q] at e; cases e
      | some z => rw [q] at e; cases e; rfl
  have hB0 : Bx (st ++ [.lst ((Mx.units m).map rowL)] ++ (List.range m).map fun i => cInts (Mx.unitRow m i)) n b := B0.ext (Ext.trans Ext.push Ext.push)
  refine for_range s.toNat (fun j σ st' => ∃ (T B : List (List Int)) (v5 v6 v7 v8 v9 : Option D), σ = [some (.ref n), some (.int m), some (.int s), some (.ref st.length), some (.lst (refsD (st.length + 1) m)), v5, v6, v7, v8, v9] ∧ TSt st n m (st'[n]?) st' T B ∧ Mx.TB m T B ∧ Mx.Bd (3 ^ j) T ∧ Mx.Bd (3 ^ j) B ∧ Bx st' n (b + 4 * j)) ?_ ?_ ⟨_, _, none, none, none, none, none, rfl, h0, Mx.TB.units m, Mx.Bd.units m, Mx.Bd.units m, hB0.mono (by simp)⟩
  · rintro σ st' ⟨T, B, v5, v6, v7, v8, v9, rfl, S, tb, bT, bB, B1⟩
    have hT := tb.t.len
    have hB := tb.b.len
    have p16 : 3 ^ s.toNat ≤ 3 ^ 16 := Nat.pow_le_pow_right (by decide) (by omega)
    refine st_seq (items_ref S.tc) fun ok hok => ⟨sz1000 (by rw [List.length_map]; omega), ?_⟩
    refine comp_map (g := fun d => match d with | .lst xs => .tup xs | _ => .non) hok _ (fun d hd K' q => ?_) ?_
    · obtain ⟨r, _, rfl⟩ := List.mem_map.mp hd
      exact ⟨_, rfl, st_tuple rfl q⟩
    have e2 : (T.map rowL).map (fun d => match d with | .lst xs => .tup xs | _ => .non) = T.map rowT := by rw [List.map_map]; rfl
    rw [e2]
    refine st_tuple rfl (st_seqL ⟨sz1000 (by unfold refsD; simp; omega), ?_⟩)
    have rr : RowsIn st' (refsD (st.length + 1) m) B := by
      have := refs_rows (st := st') (A := B) (b := st.length + 1) S.bc
      rw [hB] at this; exact this
    refine comp_rows6 rowT trivial rr (fun d r hr e K' q => ⟨_, rfl, st_tuple e q⟩) ?_
    refine st_tuple rfl ⟨Nat.le_of_ble_eq_true rfl, ?_⟩
    exact k T B st' tb (bT.mono p16) (bB.mono p16) (B1.mono (by omega)) ⟨by rw [S.len]; omega, S.out⟩
  · rintro j σ st' rest hj ⟨T, B, v5, v6, v7, v8, v9, rfl, S, tb, bT, bB, B1⟩ next
    refine ⟨_, rfl, ?_⟩
    refine ⟨n, m, _, rfl, B1, by omega, by omega, by omega, fun i st2 i0 i1 B2 U2 => ?_⟩
    obtain ⟨i, rfl⟩ := Int.eq_ofNat_of_zero_le i0
    refine st_add (st_sub (st_max ?_))
    refine ⟨n, _, _, rfl, B2, by omega, by split <;> omega, by split <;> omega, fun t st3 t0 t1 B3 U3 => ?_⟩
    refine st_add (st_mod (by omega) ?_)
    obtain ⟨p, hp, ep⟩ : ∃ p : Nat, p < m ∧ ((i : Int) + 1 + t).fmod (m : Int) = (p : Int) := by
      have c1 := Int.fmod_nonneg_of_pos ((i : Int) + 1 + t) (show (0 : Int) < m by omega)
      have c2 := Int.fmod_lt_of_pos ((i : Int) + 1 + t) (show (0 : Int) < m by omega)
      exact ⟨(((i : Int) + 1 + t).fmod (m : Int)).toNat, by omega, by omega⟩
    rw [ep]
    refine ⟨n, 5, _, rfl, B3, by omega, by decide, by decide, fun w st4 w0 w1 B4 U4 => st_sub ?_⟩
    have S4 := ((S.upd hn U2).upd hn U3).upd hn U4
    have hi : i < m := by omega
    have hT := tb.t.len
    have hB := tb.b.len
    have hri := tb.t.row hi
    have hrp := tb.t.row hp
    have p3 : 3 ^ j ≤ 3 ^ (j + 1) := Nat.pow_le_pow_right (by decide) (by omega)
    have p3' : 3 * 3 ^ j = 3 ^ (j + 1) := by rw [Nat.pow_succ, Nat.mul_comm]
    dsimp only
    refine seq_cut (fun σ' st' => ∃ (T1 B1 : List (List Int)) (v9 : Option D), σ' = [some (.ref n), some (.int m), some (.int s), some (.ref st.length), some (.lst (refsD (st.length + 1) m)), some (.int (j : Int)), some (.int (i : Int)), some (.int (p : Int)), some (.int (w - 2)), v9] ∧ TSt st n m (st'[n]?) st' T1 B1 ∧ Mx.TB m T1 B1 ∧ Mx.Bd (3 ^ (j + 1)) T1 ∧ Mx.Bd (3 ^ (j + 1)) B1 ∧ Bx st' n (b + 4 * j + 3)) (fun nx hnx => ?_) ?_
    · have neg : ∀ E' : DEnds, E'.nx = nx → (dSeq (xSetIx (dVar 3) (dVar 6) (dComp (xSeqI (dOp xIx (dVar 3) (dVar 6))) [none] (tgName 0) dTrue (dUn xNeg (dVar 0)))) (dFor (xSeqI (dVar 4)) (tgName 9) (xSetIx (dVar 9) (dVar 6) (dUn xNeg (dOp xIx (dVar 9) (dVar 6)))))) E' [some (.ref n), some (.int m), some (.int s), some (.ref st.length), some (.lst (refsD (st.length + 1) m)), some (.int (j : Int)), some (.int (i : Int)), some (.int (p : Int)), some (.int (w - 2)), v9] st4 := by
        intro E' hE
        refine st_ix (items_ref S4.tc) (at_rowsL (by omega)) (st_seqL ⟨sz1000 (by rw [List.length_map]; omega), ?_⟩)
        refine comp_map (g := fun d => match d with | .int x => .int (-x) | _ => .non) trivial _ (fun d hd K' q => ?_) ?_
        · obtain ⟨x, _, rfl⟩ := List.mem_map.mp hd
          exact ⟨_, rfl, st_neg q⟩
        rw [neg_ints]
        refine st_set S4.tc (ixN_at (by omega) (by rw [List.length_map]; omega)) ?_
        rw [Int.toNat_natCast, rows_set]
        have S5 := S4.setT (T' := Mx.negR T i)
        refine st_seqL (back_loop0 (Mx.negC i) S5 hB (fun r c st5 E' hr e q => ?_) fun u9 st6 S6 => ?_)
        · have hrl := tb.b.wid r hr
          refine st_ix (items_ref e) (at_ints (by omega)) (st_neg (st_set e (ixN_at (by omega) (by rw [List.length_map]; omega)) ?_))
          rw [Int.toNat_natCast, ints_set]
          exact q
        · show E'.nx _ _
          rw [hE]
          refine hnx _ _ ⟨_, _, _, rfl, by rw [S6.bn]; exact S6, tb.negL hi, (bT.mono p3).set fun x hx => ?_, (bB.mono p3).map fun r hr => ?_, ?_⟩
          · obtain ⟨y, hy, rfl⟩ := List.mem_map.mp hx
            have := (bT.mono p3).row y hy
            omega
          · refine Mx.rset_bd hr ?_
            have := Mx.row_get hr i
            omega
          · exact ((B4.cell S6.bn).mono (by omega))
      refine eq2 (fun h => iteT ?_) fun h => ?_
      · exact neg _ rfl
      · refine eq2 (fun h2 => iteT ?_) fun h2 => ?_
        · exact neg _ rfl
        · refine st_ix (items_ref S4.tc) (at_rowsL (by omega)) (st_ix (items_ref S4.tc) (at_rowsL (by omega)) ?_)
          refine st_zip rfl rfl fun ok hok => ⟨sz1000 (by rw [zipD_len, List.length_map, List.length_map]; omega), ?_⟩
          refine comp_map (g := fun d => match d with | .tup [.int a, .int c] => .int (a + (w - 2) * c) | _ => .non) (hok st4 rfl rfl) _ (fun d hd K' q => ?_) ?_
          · obtain ⟨a, c, ha, hc, rfl⟩ := zip_ints hd
            exact ⟨_, rfl, st_mul (mulok_l (by omega) (by omega)) (st_add q)⟩
          rw [added_map]
          refine st_set S4.tc (ixN_at (by omega) (by rw [List.length_map]; omega)) ?_
          rw [Int.toNat_natCast, rows_set]
          have S5 := S4.setT (T' := Mx.addR T p (w - 2) i)
          refine st_seqL (back_loop0 (Mx.subC i (w - 2) p) S5 hB (fun r c st5 E' hr e q => ?_) fun u9 st6 S6 => ?_)
          · have hrl := tb.b.wid r hr
            refine st_ix (items_ref e) (at_ints (by omega)) (st_ix (items_ref e) (at_ints (by omega)) (st_mul (mulok_l (by omega) (by omega)) (st_sub (st_set e (ixN_at (by omega) (by rw [List.length_map]; omega)) ?_))))
            rw [Int.toNat_natCast, ints_set]
            exact q
          · refine hnx _ _ ⟨_, _, _, rfl, by rw [S6.bn]; exact S6, tb.addL hi hp (by omega), ?_, ?_, ?_⟩
            · rw [← p3']
              exact (bT.mono (by omega)).set (Mx.addM_bd bT.row bT.row (by omega))
            · rw [← p3']
              exact bB.map fun r hr => Mx.subC_bd hr (by omega)
            · exact ((B4.cell S6.bn).mono (by omega))
    · rintro σ' st5 ⟨T1, C1, u9, rfl, S5, tb5, bT5, bC5, B5⟩
      have hT5 := tb5.t.len
      have hC5 := tb5.b.len
      refine ⟨n, 3, _, rfl, B5, by omega, by decide, by decide, fun z st6 z0 z1 B6 U6 => ?_⟩
      have S6 := S5.upd hn U6
      refine eq2 (fun h => iteT ?_) fun h => ?_
      · refine st_ix (items_ref S6.tc) (at_rowsL (by omega)) (st_ix (items_ref S6.tc) (at_rowsL (by omega)) ⟨Nat.le_of_ble_eq_true rfl, ?_⟩)
        refine st_set S6.tc (ixN_at (by omega) (by rw [List.length_map]; omega)) ?_
        rw [Int.toNat_natCast, rows_set]
        have S7 := S6.setT (T' := T1.set i (T1.getD p []))
        refine st_set S7.tc (ixN_at (by omega) (by rw [List.length_map, List.length_set]; omega)) ?_
        rw [Int.toNat_natCast, rows_set]
        have S8 := S7.setT (T' := Mx.swR T1 i p)
        refine st_seqL (back_loop0 (Mx.swC i p) S8 hC5 (fun r c st9 E' hr e q => ?_) fun u9 st9 S9 => ?_)
        · have hrl := tb5.b.wid r hr
          refine st_ix (items_ref e) (at_ints (by omega)) (st_ix (items_ref e) (at_ints (by omega)) ⟨Nat.le_of_ble_eq_true rfl, ?_⟩)
          refine st_set e (ixN_at (by omega) (by rw [List.length_map]; omega)) ?_
          rw [Int.toNat_natCast, ints_set]
          have hc := (List.getElem?_eq_some_iff.mp e).1
          refine st_set (List.getElem?_set_self hc) (ixN_at (by omega) (by rw [List.length_map, List.length_set]; omega)) ?_
          rw [Int.toNat_natCast, ints_set, List.set_set]
          exact q
        · refine next _ _ ⟨_, _, _, _, _, _, _, rfl, by rw [S9.bn]; exact S9, tb5.swapL hi hp, ?_, ?_, ?_⟩
          · exact (bT5.set bT5.row).set bT5.row
          · exact bC5.map fun r hr => Mx.rset_bd (Mx.rset_bd hr (Mx.row_get hr p)) (Mx.row_get hr i)
          · exact ((B6.cell S9.bn).mono (by omega))
      · exact next _ _ ⟨T1, C1, _, _, _, _, _, rfl, S6, tb5, bT5, bC5, B6.mono (by omega)⟩
def S_law_field : DSp := fun ds st K => ∃ p q r, ds = [ofR p, ofR q, ofR r] ∧ Sz p 41 ∧ Sz q 41 ∧ Sz r 41 ∧ K (.bl true) st
def N_law_field : List Str := ["_law_one", "_law_other", "_law_third", "_law_low"]
def P_law_field : DS := (dSeq (dIfS (dTest (dOp xNeD (dCall S_plus (dCons (dVar 0) (dCons (dCall S_plus (dCons (dVar 1) (dCons (dVar 2) dNil))) dNil))) (dCall S_plus (dCons (dCall S_plus (dCons (dVar 0) (dCons (dVar 1) dNil))) (dCons (dVar 2) dNil))))) (dRet (dC (.bl false))) dNext)
    (dSeq (dIfS (dTest (dOp xNeD (dCall S_times (dCons (dVar 0) (dCons (dCall S_plus (dCons (dVar 1) (dCons (dVar 2) dNil))) dNil))) (dCall S_plus (dCons (dCall S_times (dCons (dVar 0) (dCons (dVar 1) dNil))) (dCons (dCall S_times (dCons (dVar 0) (dCons (dVar 2) dNil))) dNil))))) (dRet (dC (.bl false))) dNext)
    (dSeq (dIfS (dOrT (dTest (dOp xNeD (dCall S_minus (dCons (dCall S_plus (dCons (dVar 0) (dCons (dVar 1) dNil))) (dCons (dVar 1) dNil))) (dVar 0))) (dTest (dOp xNeD (dCall S_times (dCons (dVar 0) (dCons (dCall S_times (dCons (dVar 1) (dCons (dVar 2) dNil))) dNil))) (dCall S_times (dCons (dCall S_times (dCons (dVar 0) (dCons (dVar 1) dNil))) (dCons (dVar 2) dNil)))))) (dRet (dC (.bl false))) dNext)
    (dSeq (dIfS (dAndT (dTest (dOp xNe (dOp xIx (dVar 1) (dC (.int 0))) (dC (.int 0)))) (dTest (dOp xNeD (dCall S_times (dCons (dCall S_over (dCons (dVar 0) (dCons (dVar 1) dNil))) (dCons (dVar 1) dNil))) (dVar 0)))) (dRet (dC (.bl false))) dNext)
    (dSeq (dSet 3 (dCall S_whole (dCons (dCall S_floor_of (dCons (dVar 0) dNil)) dNil)))
    (dRet (dAndV (dNotV (dTest (dCall S_before (dCons (dVar 0) (dCons (dVar 3) dNil))))) (dCall S_before (dCons (dVar 0) (dCons (dCall S_plus (dCons (dVar 3) (dCons (dTup (dCons (dC (.int 1)) (dCons (dC (.int 1)) dNil))) dNil))) dNil))))))))))
theorem pl_ofR {n : Nat} {q : Rat} : pl (n + 1) (ofR q) = true := by cases n <;> rfl
theorem sp_law_field : ∀ ds st K, S_law_field ds st K → ds.length = 3 ∧ P_law_field { nx := fun _ st' => K .non st', rt := K } (startD N_law_field ds) st := by
  rintro ds st K ⟨p, q, r, rfl, hp, hq, hr, k⟩
  refine ⟨rfl, ?_⟩
  have F : ∀ {x : Rat} {m : Nat}, Sz x m → m ≤ 2000 → Fq st (ofR x) x := fun h hm => Fq.tup h hm
  have Fp := F hp (by decide)
  have Fq' := F hq (by decide)
  have Fr := F hr (by decide)
  refine ⟨_, _, q, r, rfl, Fq', Fr, ?_⟩
  refine ⟨_, _, p, q + r, rfl, Fp, F (hq.add hr) (by decide), ?_⟩
  refine ⟨_, _, p, q, rfl, Fp, Fq', ?_⟩
  refine ⟨_, _, p + q, r, rfl, F (hp.add hq) (by decide), Fr, ?_⟩
  rw [Rat.add_assoc]
  refine neD_same pl_ofR ?_
  refine ⟨_, _, q, r, rfl, Fq', Fr, ?_⟩
  refine ⟨_, _, p, q + r, rfl, Fp, F (hq.add hr) (by decide), ?_⟩
  refine ⟨_, _, p, q, rfl, Fp, Fq', ?_⟩
  refine ⟨_, _, p, r, rfl, Fp, Fr, ?_⟩
  refine ⟨_, _, p * q, p * r, rfl, F (hp.mul hq) (by decide), F (hp.mul hr) (by decide), ?_⟩
  rw [Rat.mul_add]
  refine neD_same pl_ofR ?_
  refine ⟨_, _, p, q, rfl, Fp, Fq', ?_⟩
  refine ⟨_, _, p + q, q, rfl, F (hp.add hq) (by decide), Fq', ?_⟩
  rw [Rat.add_sub_cancel]
  refine neD_same pl_ofR ?_
  refine ⟨_, _, q, r, rfl, Fq', Fr, ?_⟩
  refine ⟨_, _, p, q * r, rfl, Fp, F (hq.mul hr) (by decide), ?_⟩
  refine ⟨_, _, p, q, rfl, Fp, Fq', ?_⟩
  refine ⟨_, _, p * q, r, rfl, F (hp.mul hq) (by decide), Fr, ?_⟩
  rw [Rat.mul_assoc]
  refine neD_same pl_ofR ?_
  have fin : (dSeq (dSet 3 (dCall S_whole (dCons (dCall S_floor_of (dCons (dVar 0) dNil)) dNil))) (dRet (dAndV (dNotV (dTest (dCall S_before (dCons (dVar 0) (dCons (dVar 3) dNil))))) (dCall S_before (dCons (dVar 0) (dCons (dCall S_plus (dCons (dVar 3) (dCons (dTup (dCons (dC (.int 1)) (dCons (dC (.int 1)) dNil))) dNil))) dNil)))))) { nx := fun _ st' => K .non st', rt := K } [some (ofR p), some (ofR q), some (ofR r), none] st := by
    refine ⟨_, p, rfl, Fp, ?_⟩
    refine ⟨_, rfl, ?_⟩
    have ef : D.tup [.int (p.num / ((p.den : Nat) : Int)), .int 1] = ofR ((p.floor : Int) : Rat) := by
      rw [Rat.floor_def]
      rfl
    have sf : Sz ((p.floor : Int) : Rat) 41 := by
      constructor
      · show (p.floor).natAbs < 2 ^ 41
        rw [Rat.floor_def]
        exact Nat.lt_of_le_of_lt (Int.natAbs_ediv_le_natAbs _ _) hp.num
      · show 1 < 2 ^ 41
        decide
    rw [ef]
    refine ⟨_, _, p, _, rfl, Fp, F sf (by decide), ?_⟩
    have n1 : decide (p < ((p.floor : Int) : Rat)) = false := decide_eq_false (Rat.not_lt.mpr (Rat.floor_le p))
    rw [n1]
    refine iteT ⟨Nat.le_of_ble_eq_true rfl, ?_⟩
    have s1 : Sz (1 : Rat) 41 := ⟨by decide, by decide⟩
    refine ⟨_, _, _, 1, rfl, F sf (by decide), ⟨rfl, s1.mono (by decide)⟩, ?_⟩
    refine ⟨_, _, p, _, rfl, Fp, F (sf.add s1) (by decide), ?_⟩
    have n2 : decide (p < ((p.floor : Int) : Rat) + 1) = true := decide_eq_true (by
      have := Rat.lt_floor_add_one p
      rw [Rat.intCast_add] at this
      exact this)
    rw [n2]
    exact k
  refine st_ix rfl atI_zero (ne2 (fun h0 => iteT ?_) fun _ => fin)
  refine ⟨_, _, p, q, rfl, Fp, Fq', h0, ?_⟩
  refine ⟨_, _, p / q, q, rfl, F (hp.div hq h0) (by decide), Fq', ?_⟩
  rw [Rat.div_mul_cancel (fun z => h0 (by rw [z]; rfl))]
  refine neD_same pl_ofR ?_
  exact fin
abbrev S_law : DSp := S_lawG
def N_law : List Str := ["_law_script", "_law_k", "_law_box_here", "_law_n", "_law_ka", "_law_kb", "_law_found", "_law_turn_here", "_law_back", "_law_sign"]
def P_law : DS := (dSeq (dFor (xRange1 (dCons (dCB xMax (dCons (dC (.int 1)) (dCons (dCB xMin (dCons (dCB xLen (dCons (dVar 0) dNil)) (dCons (dC (.int 8)) dNil))) dNil))) dNil)) (tgName 1) (dSeq (dSet 2 (dCall S_law_box (dCons (dVar 0) (dCons (dVar 1) dNil))))
    (dSeq (dSet 3 (dCB xMin (dCons (dC (.int 6)) (dCons (dCall S_law_size (dCons (dVar 2) dNil)) dNil))))
    (dSeq (dSet 4 (dCall S_law_rows (dCons (dVar 2) (dCons (dVar 3) (dCons (dVar 3) dNil)))))
    (dSeq (dSet 5 (dCall S_law_rows (dCons (dVar 2) (dCons (dVar 3) (dCons (dVar 3) dNil)))))
    (dSeq (dSet 6 (dCall S_measure (dCons (dVar 4) dNil)))
    (dSeq (dIfS (dOrT (dTest (dOp xNe (dCall S_measure (dCons (dCall S_product (dCons (dVar 4) (dCons (dVar 5) dNil))) dNil)) (dOp xMul (dVar 6) (dCall S_measure (dCons (dVar 5) dNil))))) (dTest (dOp xNe (dCall S_measure (dCons (dCall S_turned_over (dCons (dVar 4) (dCons (dVar 3) dNil))) dNil)) (dVar 6)))) (dRet (dC (.bl false))) dNext)
    (dSeq (dAsg (tgTwo 7 8) (dCall S_law_turn (dCons (dVar 2) (dCons (dVar 3) (dCons (dOp xMul (dC (.int 2)) (dVar 3)) dNil)))))
    (dSeq (dSet 9 (dCall S_measure (dCons (dVar 7) dNil)))
    (dSeq (dIfS (dOrT (dTest (dOp xNotIn (dVar 9) (dTup (dCons (dC (.int 1)) (dCons (dUn xNeg (dC (.int 1))) dNil))))) (dOrT (dTest (dOp xNe (dCall S_measure (dCons (dVar 8) dNil)) (dVar 9))) (dNotT (dTest (dCall S_are_back (dCons (dVar 7) (dCons (dVar 8) dNil))))))) (dRet (dC (.bl false))) dNext)
    (dSeq (dIfS (dOrT (dTest (dOp xNe (dCall S_measure (dCons (dCall S_product (dCons (dVar 7) (dCons (dVar 4) dNil))) dNil)) (dOp xMul (dVar 9) (dVar 6)))) (dTest (dOp xNe (dCall S_measure (dCons (dCall S_product (dCons (dVar 4) (dCons (dVar 8) dNil))) dNil)) (dOp xMul (dVar 9) (dVar 6))))) (dRet (dC (.bl false))) dNext)
    (dIfS (dNotT (dTest (dCall S_law_field (dCons (dCall S_law_fraction (dCons (dVar 2) dNil)) (dCons (dCall S_law_fraction (dCons (dVar 2) dNil)) (dCons (dCall S_law_fraction (dCons (dVar 2) dNil)) dNil)))))) (dRet (dC (.bl false))) dNext))))))))))))
    (dRet (dC (.bl true))))
theorem nums_ints {st : Store} {d : D} {r : List Int} (h : items? st d = some (dInts r)) : areNums st d r.length = true := by
  unfold areNums
  rw [h]
  simp only [List.length_map, decide_true, Bool.true_and]
  refine List.all_eq_true.mpr fun x hx => ?_
  obtain ⟨i, _, rfl⟩ := List.mem_map.mp hx
  rfl
theorem rowsIn_nums {st : Store} {w : Nat} : ∀ {ds : List D} {A : List (List Int)}, RowsIn st ds A → (∀ r ∈ A, r.length = w) → (ds.all fun r => areNums st r w) = true ∧ ds.map (intsOf st) = A
  | [], [], _, _ => ⟨rfl, rfl⟩
  | d :: ds, r :: A, h, hw => by
    obtain ⟨h1, h2⟩ := rowsIn_nums h.2 fun q hq => hw q (List.mem_cons_of_mem _ hq)
    have := nums_ints h.1
    rw [hw r List.mem_cons_self] at this
    rw [List.all_cons, this, h1, List.map_cons, intsOf_eq h.1, h2]
    exact ⟨rfl, rfl⟩
theorem rowsD_is {st : Store} {d : D} {n : Nat} {A : List (List Int)} (h : RowsD st d A) (hA : Mx.IsM n n A) : isRows st d (.int n) n = true ∧ rowsOf st d = A := by
  obtain ⟨ds, e, r⟩ := h.ex
  obtain ⟨h1, h2⟩ := rowsIn_nums r hA.wid
  have h3 := r.len
  have h4 := hA.len
  constructor
  · unfold isRows
    rw [e]
    simp only [Bool.and_eq_true]
    exact ⟨decide_eq_true (by omega), h1⟩
  · unfold rowsOf
    rw [e]
    exact h2
theorem abk_tb {st : Store} {x y : D} {n : Nat} {T B : List (List Int)} (hx : RowsD st x T) (hy : RowsD st y B) (hT : Mx.IsM n n T) (hB : Mx.IsM n n B) (h : Mx.mulM T B n = Mx.units n) : abk st x y = true := by
  obtain ⟨a1, a2⟩ := rowsD_is hx hT
  obtain ⟨b1, b2⟩ := rowsD_is hy hB
  obtain ⟨ds, e, r⟩ := hx.ex
  have h3 := r.len
  have h4 := hT.len
  have h5 : ds.length = n := by omega
  rw [abk_some e, h5, a1, b1, a2, b2, h]
  simp
theorem rowsT_thing {st : Store} {A : List (List Int)} (hl : A.length ≤ 1000) (hw : ∀ r ∈ A, r.length ≤ 1000) : Thing2 st (rowsT A) := by
  refine ⟨⟨_, rfl⟩, fun xs e => ?_⟩
  cases e
  refine ⟨fun x hx => ?_, sz1000 (by rw [List.length_map]; exact hl)⟩
  obtain ⟨r, hr, rfl⟩ := List.mem_map.mp hx
  refine ⟨⟨_, rfl⟩, fun ys e => ?_⟩
  cases e
  refine ⟨fun y hy => ?_, sz1000 (by rw [List.length_map]; exact hw r hr)⟩
  obtain ⟨i, _, rfl⟩ := List.mem_map.mp hy
  exact ⟨_, rfl⟩
theorem rowsT_small {st : Store} {A : List (List Int)} (hl : A.length ≤ 1000) (hb : Mx.Bd (3 ^ 16) A) : SmallD st (rowsT A) := by
  refine ⟨fun xs e => ?_, fun xs e x hx ys ey i hi => ?_⟩
  · cases e; rw [List.length_map]; exact hl
  · cases e
    obtain ⟨r, hr, rfl⟩ := List.mem_map.mp hx
    cases ey
    obtain ⟨j, hj, e⟩ := List.mem_map.mp hi
    cases e
    have := hb r hr i hj
    omega
theorem bdB_of {A : List (List Int)} {n : Nat} (hA : Mx.IsM n n A) (h : ∀ i j, i < n → j < n → (Mx.g A i j).natAbs ≤ B90) : BdB A := fun r hr x hx => by
  obtain ⟨i, hi, rfl⟩ := List.mem_iff_getElem.mp hr
  obtain ⟨j, hj, rfl⟩ := List.mem_iff_getElem.mp hx
  have hl := hA.len
  have hw := hA.wid _ (List.getElem_mem hi)
  have := h i j (by omega) (by omega)
  unfold Mx.g at this
  rw [Mx.getD_lt hi, Mx.getD_lt hj] at this
  exact this
theorem mul_bdB {A B : List (List Int)} {n a b : Nat} (hA : Mx.IsM n n A) (hB : Mx.IsM n n B) (hn : n ≤ 8) (ha : ∀ i j, i < n → j < n → (Mx.g A i j).natAbs ≤ a) (hb : ∀ i j, i < n → j < n → (Mx.g B i j).natAbs ≤ b) (h : 8 * (a * b) ≤ B90) : BdB (Mx.mulM A B n) :=
  bdB_of (Mx.mulM_is hA hB) fun i j hi hj => by
    rw [Mx.mulM_at hA hB hi]
    have := Mx.S_abs (n := n) (f := fun k => Mx.g A i k * Mx.g B k j) (m := a * b) fun k hk => by
      rw [Int.natAbs_mul]
      exact Nat.mul_le_mul (ha i k hi hk) (hb k j hk hj)
    exact Nat.le_trans this (Nat.le_trans (Nat.mul_le_mul_right _ hn) h)
theorem D_mulM {A B : List (List Int)} {n : Nat} (hA : Mx.IsM n n A) (hB : Mx.IsM n n B) : Mx.D n (Mx.g (Mx.mulM A B n)) = Mx.D n (Mx.g A) * Mx.D n (Mx.g B) := by
  rw [Mx.D_congr fun r c hr _ => Mx.mulM_at hA hB hr c, Mx.D_mul]
theorem one_of {a b : Int} (h : a * b = 1) : (a = 1 ∨ a = -1) ∧ b = a := by
  have h1 : a.natAbs * b.natAbs = 1 := by rw [← Int.natAbs_mul, h]; rfl
  have h2 := Nat.eq_one_of_mul_eq_one_right h1
  have h3 : a = 1 ∨ a = -1 := by omega
  refine ⟨h3, ?_⟩
  rcases h3 with rfl | rfl <;> omega
theorem g_abs {A : List (List Int)} {n m : Nat} (hA : Mx.IsM n n A) (h : ∀ r ∈ A, ∀ x ∈ r, x.natAbs ≤ m) : ∀ i j, i < n → j < n → (Mx.g A i j).natAbs ≤ m := fun r c hr hc => by
  have hl := hA.len
  have hm : A.getD r [] ∈ A := by rw [Mx.getD_lt (by omega)]; exact List.getElem_mem _
  have hw := hA.wid _ hm
  exact h _ hm _ (getD_mem (by omega))
theorem D_le {A : List (List Int)} {n : Nat} (hA : Mx.IsM n n A) (hn : n ≤ 8) (h : BdB A) : (Mx.D n (Mx.g A)).natAbs ≤ 2 ^ 744 := Nat.le_trans (Mx.D_abs hn (g_bdB hA h)) (p41 hn)
theorem sp_law : ∀ ds st K, S_law ds st K → ds.length = 1 ∧ P_law { nx := fun _ st' => K .non st', rt := K } (startD N_law ds) st := by
  rintro ds st K ⟨ns, rfl, hl, k⟩
  refine ⟨rfl, ?_⟩
  have len : ∀ K', K' (.int ns.length) st → xLen [.lst (ns.map .int)] st K' := fun K' h => st_len rfl (by rw [List.length_map]; exact h)
  refine len _ (st_min (st_max (st_rng1 ?_ ?_)))
  · refine ⟨?_, ?_⟩ <;> (repeat' split) <;> omega
  · refine for_ind (fun rest σ st' => (∃ v1 v2 v3 v4 v5 v6 v7 v8 v9 : Option D, σ = [some (.lst (ns.map .int)), v1, v2, v3, v4, v5, v6, v7, v8, v9]) ∧ ∀ x ∈ rest, ∃ k : Int, x = .int k ∧ 0 ≤ k ∧ k ≤ 100) ?_ ?_ _ _ _ ?_
    · rintro σ st1 ⟨⟨v1, v2, v3, v4, v5, v6, v7, v8, v9, rfl⟩, _⟩
      exact ⟨trivial, k _⟩
    · rintro x rest σ st1 ⟨⟨v1, v2, v3, v4, v5, v6, v7, v8, v9, rfl⟩, hr⟩ next
      obtain ⟨cc, rfl, c0, c1⟩ := hr x List.mem_cons_self
      have hrest : ∀ x ∈ rest, ∃ k : Int, x = .int k ∧ 0 ≤ k ∧ k ≤ 100 := fun x hx => hr x (List.mem_cons_of_mem _ hx)
      refine ⟨trivial, _, rfl, ?_⟩
      refine ⟨ns, cc, rfl, c0, by omega, hl, fun st2 B2 _ _ => ?_⟩
      refine ⟨_, _, rfl, B2, by omega, fun m st3 m1 m8 B3 U3 => st_min ?_⟩
      obtain ⟨n, hn⟩ := Int.eq_ofNat_of_zero_le (show 0 ≤ (if m < 6 then m else 6) by split <;> omega)
      rw [hn]
      have hn1 : 1 ≤ n := by split at hn <;> omega
      have hn6 : n ≤ 6 := by split at hn <;> omega
      refine ⟨_, _, n, n, rfl, B3, by omega, by omega, by omega, fun A st4 hA bA B4 U4 => ?_⟩
      refine ⟨_, _, n, n, rfl, B4, by omega, by omega, by omega, fun B st5 hB bB B5 U5 => ?_⟩
      have la := hA.len
      have lb := hB.len
      have sA : ∀ r ∈ A, ∀ x ∈ r, x.natAbs ≤ 1000000000000 := fun r hr x hx => by have := bA r hr x hx; omega
      have sB : ∀ r ∈ B, ∀ x ∈ r, x.natAbs ≤ 1000000000000 := fun r hr x hx => by have := bB r hr x hx; omega
      have gA := g_abs hA sA
      have gB := g_abs hB sB
      have BA : BdB A := fun r hr x hx => Nat.le_trans (sA r hr x hx) (by decide)
      have BB : BdB B := fun r hr x hx => Nat.le_trans (sB r hr x hx) (by decide)
      have neB : B ≠ [] := fun z => by rw [z] at lb; simp at lb; omega
      have neA : A ≠ [] := fun z => by rw [z] at la; simp at la; omega
      refine ⟨_, A, n, rfl, rowsT_d, hA, by omega, BA, fun st6 X6 => ?_⟩
      have B6 := B5.ext X6
      refine ⟨_, _, n, A, B, rfl, rowsT_d, rowsT_d, neB, hB.wid, by omega, by omega, bd_mul bA, ?_⟩
      refine ⟨_, Mx.mulM A B n, n, rfl, rowsT_d, Mx.mulM_is hA hB, by omega, mul_bdB hA hB (by omega) gA gB (by decide), fun st7 X7 => ?_⟩
      refine ⟨_, B, n, rfl, rowsT_d, hB, by omega, BB, fun st8 X8 => ?_⟩
      refine st_mul (mulok_b (D_le hA (by omega) BA) (D_le hB (by omega) BB)) ?_
      rw [D_mulM hA hB]
      refine neF rfl ?_
      refine ⟨_, A, n, rfl, rowsT_d, hA.wid, by omega, by omega, ?_⟩
      have hT := Mx.trM_is hA
      have hTD : Mx.D n (Mx.g (Mx.trM A n)) = Mx.D n (Mx.g A) := by
        rw [← Mx.D_tr n (Mx.g A)]
        exact Mx.D_congr fun r c hr hc => Mx.trM_at hA hc hr
      have hTB : BdB (Mx.trM A n) := bdB_of hT fun i j hi hj => by
        rw [Mx.trM_at hA hj hi]
        exact Nat.le_trans (gA j i hj hi) (by decide)
      refine ⟨_, Mx.trM A n, n, rfl, rowsT_d, hT, by omega, hTB, fun st9 X9 => ?_⟩
      rw [hTD]
      refine neF rfl ?_
      have B9 := ((B6.ext X7).ext X8).ext X9
      refine st_mul (mulok_l (by decide) (by decide)) ?_
      refine ⟨_, _, n, _, rfl, B9, by omega, hn1, by omega, by omega, by omega, fun T C st10 tb bT bC B10 X10 => ?_⟩
      refine ⟨_, rfl, ?_⟩
      have hTm := tb.t
      have hCm := tb.b
      have lT := hTm.len
      have lC := hCm.len
      have gT := g_abs hTm bT
      have gC := g_abs hCm bC
      have BT : BdB T := fun r hr x hx => Nat.le_trans (bT r hr x hx) (by decide)
      have BC : BdB C := fun r hr x hx => Nat.le_trans (bC r hr x hx) (by decide)
      have hTC : Mx.D n (Mx.g T) * Mx.D n (Mx.g C) = 1 := by
        rw [← Mx.D_mul, Mx.D_congr fun r c hr hc => tb.tb r c hr hc, Mx.D_units]
      obtain ⟨hs, hCT⟩ := one_of hTC
      refine ⟨_, T, n, rfl, rowsT_d, hTm, by omega, BT, fun st11 X11 => ?_⟩
      generalize eS : Mx.D n (Mx.g T) = s at hs hCT hTC
      refine st_neg ⟨Nat.le_of_ble_eq_true rfl, st_notin (ns := [1, -1]) rfl ?_⟩
      have e0 : (!([1, -1] : List Int).any (· == s)) = false := by
        rcases hs with rfl | rfl <;> rfl
      rw [e0]
      refine ⟨_, C, n, rfl, rowsT_d, hCm, by omega, BC, fun st12 X12 => ?_⟩
      rw [hCT]
      refine neF rfl ?_
      refine ⟨_, _, rfl, rowsT_thing (by omega) fun r hr => by rw [hTm.wid r hr]; omega, rowsT_thing (by omega) fun r hr => by rw [hCm.wid r hr]; omega, rowsT_small (by omega) bT, ?_⟩
      rw [abk_tb rowsT_d rowsT_d hTm hCm tb.mul.1]
      refine ⟨_, _, n, T, A, rfl, rowsT_d, rowsT_d, neA, hA.wid, by omega, by omega, fun w hw c hc r _ b _ => by
        have := bT w hw c hc
        exact mulok_l (by omega) (by omega), ?_⟩
      refine ⟨_, Mx.mulM T A n, n, rfl, rowsT_d, Mx.mulM_is hTm hA, by omega, mul_bdB hTm hA (by omega) gT gA (by decide), fun st13 X13 => ?_⟩
      refine st_mul (mulok_l (by omega) (by omega)) ?_
      rw [D_mulM hTm hA, eS]
      refine neF rfl ?_
      refine ⟨_, _, n, A, C, rfl, rowsT_d, rowsT_d, fun z => by rw [z] at lC; simp at lC; omega, hCm.wid, by omega, by omega, bd_mul bA, ?_⟩
      refine ⟨_, Mx.mulM A C n, n, rfl, rowsT_d, Mx.mulM_is hA hCm, by omega, mul_bdB hA hCm (by omega) gA gC (by decide), fun st14 X14 => ?_⟩
      refine st_mul (mulok_l (by omega) (by omega)) ?_
      rw [D_mulM hA hCm, hCT, Int.mul_comm]
      refine neF rfl ?_
      have B14 := (((B10.ext X11).ext X12).ext X13).ext X14
      refine ⟨_, _, rfl, B14, by omega, fun p st15 hp B15 U15 => ?_⟩
      refine ⟨_, _, rfl, B15, by omega, fun q st16 hq B16 U16 => ?_⟩
      refine ⟨_, _, rfl, B16, by omega, fun r st17 hr' B17 U17 => ?_⟩
      refine ⟨p, q, r, rfl, hp, hq, hr', ?_⟩
      exact next _ _ ⟨⟨_, _, _, _, _, _, _, _, _, rfl⟩, hrest⟩
    · exact ⟨⟨_, _, _, _, _, _, _, _, _, rfl⟩, fun x hx => by
        unfold rangeD at hx
        obtain ⟨i, hi, rfl⟩ := List.mem_map.mp hx
        rw [List.mem_range] at hi
        refine ⟨_, rfl, by omega, ?_⟩
        revert hi
        (repeat' split) <;> omega⟩
end Prog
namespace Row
open PySem L2 L3 Prog
open PySem.Spec hiding items?
open PyProof.Rows hiding St
def top (i : Nat) : Stmt := PySem.Challenge.pw_latticeworks_k09_whole_measures_and_turn.main.body.getD i (.Pass ⟨0, 0, 0, 0⟩)
theorem vd_0 : (("int" : Str) == ("__debug__" : Str)) = false := by decide +kernel
theorem vd_1 : (("thing" : Str) == ("__debug__" : Str)) = false := by decide +kernel
theorem vc_1 : (("thing" : Str) == ("__classdict__" : Str)) = false := by decide +kernel
theorem vd_2 : (("isinstance" : Str) == ("__debug__" : Str)) = false := by decide +kernel
theorem vd_3 : (("bool" : Str) == ("__debug__" : Str)) = false := by decide +kernel
theorem vd_4 : (("tuple" : Str) == ("__debug__" : Str)) = false := by decide +kernel
theorem vd_5 : (("list" : Str) == ("__debug__" : Str)) = false := by decide +kernel
theorem vd_6 : (("is_listed" : Str) == ("__debug__" : Str)) = false := by decide +kernel
theorem vd_7 : (("len" : Str) == ("__debug__" : Str)) = false := by decide +kernel
theorem vd_8 : (("many" : Str) == ("__debug__" : Str)) = false := by decide +kernel
theorem vc_8 : (("many" : Str) == ("__classdict__" : Str)) = false := by decide +kernel
theorem vd_9 : (("is_listed_of" : Str) == ("__debug__" : Str)) = false := by decide +kernel
theorem vd_10 : (("each" : Str) == ("__debug__" : Str)) = false := by decide +kernel
theorem vc_10 : (("each" : Str) == ("__classdict__" : Str)) = false := by decide +kernel
theorem vd_11 : (("is_number" : Str) == ("__debug__" : Str)) = false := by decide +kernel
theorem vd_12 : (("all" : Str) == ("__debug__" : Str)) = false := by decide +kernel
theorem vd_13 : (("other" : Str) == ("__debug__" : Str)) = false := by decide +kernel
theorem vc_13 : (("other" : Str) == ("__classdict__" : Str)) = false := by decide +kernel
theorem vd_14 : (("row" : Str) == ("__debug__" : Str)) = false := by decide +kernel
theorem vc_14 : (("row" : Str) == ("__classdict__" : Str)) = false := by decide +kernel
theorem vd_16 : (("one" : Str) == ("__debug__" : Str)) = false := by decide +kernel
theorem vc_16 : (("one" : Str) == ("__classdict__" : Str)) = false := by decide +kernel
theorem vd_17 : (("times" : Str) == ("__debug__" : Str)) = false := by decide +kernel
theorem vc_17 : (("times" : Str) == ("__classdict__" : Str)) = false := by decide +kernel
theorem vd_18 : (("two" : Str) == ("__debug__" : Str)) = false := by decide +kernel
theorem vc_18 : (("two" : Str) == ("__classdict__" : Str)) = false := by decide +kernel
theorem vd_19 : (("wide" : Str) == ("__debug__" : Str)) = false := by decide +kernel
theorem vc_19 : (("wide" : Str) == ("__classdict__" : Str)) = false := by decide +kernel
theorem vd_20 : (("rows" : Str) == ("__debug__" : Str)) = false := by decide +kernel
theorem vc_20 : (("rows" : Str) == ("__classdict__" : Str)) = false := by decide +kernel
theorem vd_21 : (("weights" : Str) == ("__debug__" : Str)) = false := by decide +kernel
theorem vc_21 : (("weights" : Str) == ("__classdict__" : Str)) = false := by decide +kernel
theorem vd_22 : (("weight" : Str) == ("__debug__" : Str)) = false := by decide +kernel
theorem vc_22 : (("weight" : Str) == ("__classdict__" : Str)) = false := by decide +kernel
theorem vd_23 : (("total" : Str) == ("__debug__" : Str)) = false := by decide +kernel
theorem vc_23 : (("total" : Str) == ("__classdict__" : Str)) = false := by decide +kernel
theorem vd_24 : (("added" : Str) == ("__debug__" : Str)) = false := by decide +kernel
theorem vd_25 : (("sum_by" : Str) == ("__debug__" : Str)) = false := by decide +kernel
theorem vd_26 : (("place" : Str) == ("__debug__" : Str)) = false := by decide +kernel
theorem vc_26 : (("place" : Str) == ("__classdict__" : Str)) = false := by decide +kernel
theorem vd_28 : (("column" : Str) == ("__debug__" : Str)) = false := by decide +kernel
theorem vd_29 : (("n" : Str) == ("__debug__" : Str)) = false := by decide +kernel
theorem vc_29 : (("n" : Str) == ("__classdict__" : Str)) = false := by decide +kernel
theorem vd_30 : (("k" : Str) == ("__debug__" : Str)) = false := by decide +kernel
theorem vc_30 : (("k" : Str) == ("__classdict__" : Str)) = false := by decide +kernel
theorem vd_31 : (("unit_row" : Str) == ("__debug__" : Str)) = false := by decide +kernel
theorem vd_32 : (("are_numbers" : Str) == ("__debug__" : Str)) = false := by decide +kernel
theorem vd_33 : (("turn" : Str) == ("__debug__" : Str)) = false := by decide +kernel
theorem vc_33 : (("turn" : Str) == ("__classdict__" : Str)) = false := by decide +kernel
theorem vd_34 : (("is_rows" : Str) == ("__debug__" : Str)) = false := by decide +kernel
theorem vd_35 : (("back" : Str) == ("__debug__" : Str)) = false := by decide +kernel
theorem vc_35 : (("back" : Str) == ("__classdict__" : Str)) = false := by decide +kernel
theorem vd_36 : (("product" : Str) == ("__debug__" : Str)) = false := by decide +kernel
theorem vd_37 : (("unit_rows" : Str) == ("__debug__" : Str)) = false := by decide +kernel
theorem vd_38 : (("head" : Str) == ("__debug__" : Str)) = false := by decide +kernel
theorem vc_38 : (("head" : Str) == ("__classdict__" : Str)) = false := by decide +kernel
theorem vd_39 : (("own" : Str) == ("__debug__" : Str)) = false := by decide +kernel
theorem vc_39 : (("own" : Str) == ("__classdict__" : Str)) = false := by decide +kernel
theorem vd_40 : (("above" : Str) == ("__debug__" : Str)) = false := by decide +kernel
theorem vc_40 : (("above" : Str) == ("__classdict__" : Str)) = false := by decide +kernel
theorem vd_41 : (("divisor" : Str) == ("__debug__" : Str)) = false := by decide +kernel
theorem vc_41 : (("divisor" : Str) == ("__classdict__" : Str)) = false := by decide +kernel
theorem vd_42 : (("left" : Str) == ("__debug__" : Str)) = false := by decide +kernel
theorem vc_42 : (("left" : Str) == ("__classdict__" : Str)) = false := by decide +kernel
theorem vd_43 : (("row_to_divide_by" : Str) == ("__debug__" : Str)) = false := by decide +kernel
theorem vd_44 : (("found" : Str) == ("__debug__" : Str)) = false := by decide +kernel
theorem vc_44 : (("found" : Str) == ("__classdict__" : Str)) = false := by decide +kernel
theorem vd_45 : (("sign" : Str) == ("__debug__" : Str)) = false := by decide +kernel
theorem vc_45 : (("sign" : Str) == ("__classdict__" : Str)) = false := by decide +kernel
theorem vd_46 : (("row_below" : Str) == ("__debug__" : Str)) = false := by decide +kernel
theorem vd_47 : (("abs" : Str) == ("__debug__" : Str)) = false := by decide +kernel
theorem vd_48 : (("small" : Str) == ("__debug__" : Str)) = false := by decide +kernel
theorem vc_48 : (("small" : Str) == ("__classdict__" : Str)) = false := by decide +kernel
theorem vd_49 : (("great" : Str) == ("__debug__" : Str)) = false := by decide +kernel
theorem vc_49 : (("great" : Str) == ("__classdict__" : Str)) = false := by decide +kernel
theorem vd_50 : (("rest" : Str) == ("__debug__" : Str)) = false := by decide +kernel
theorem vc_50 : (("rest" : Str) == ("__classdict__" : Str)) = false := by decide +kernel
theorem vd_51 : (("bottom" : Str) == ("__debug__" : Str)) = false := by decide +kernel
theorem vc_51 : (("bottom" : Str) == ("__classdict__" : Str)) = false := by decide +kernel
theorem vd_52 : (("top" : Str) == ("__debug__" : Str)) = false := by decide +kernel
theorem vc_52 : (("top" : Str) == ("__classdict__" : Str)) = false := by decide +kernel
theorem vd_53 : (("common" : Str) == ("__debug__" : Str)) = false := by decide +kernel
theorem vd_54 : (("shrink" : Str) == ("__debug__" : Str)) = false := by decide +kernel
theorem vc_54 : (("shrink" : Str) == ("__classdict__" : Str)) = false := by decide +kernel
theorem vd_55 : (("part" : Str) == ("__debug__" : Str)) = false := by decide +kernel
theorem vd_56 : (("_law_k" : Str) == ("__debug__" : Str)) = false := by decide +kernel
theorem vc_56 : (("_law_k" : Str) == ("__classdict__" : Str)) = false := by decide +kernel
theorem vd_57 : (("_law_script" : Str) == ("__debug__" : Str)) = false := by decide +kernel
theorem vc_57 : (("_law_script" : Str) == ("__classdict__" : Str)) = false := by decide +kernel
theorem vd_58 : (("_law_cell" : Str) == ("__debug__" : Str)) = false := by decide +kernel
theorem vc_58 : (("_law_cell" : Str) == ("__classdict__" : Str)) = false := by decide +kernel
theorem vd_59 : (("_law_box_here" : Str) == ("__debug__" : Str)) = false := by decide +kernel
theorem vc_59 : (("_law_box_here" : Str) == ("__classdict__" : Str)) = false := by decide +kernel
theorem vd_60 : (("_law_many" : Str) == ("__debug__" : Str)) = false := by decide +kernel
theorem vc_60 : (("_law_many" : Str) == ("__classdict__" : Str)) = false := by decide +kernel
theorem vd_61 : (("_law_digit" : Str) == ("__debug__" : Str)) = false := by decide +kernel
theorem vc_61 : (("_law_digit" : Str) == ("__classdict__" : Str)) = false := by decide +kernel
theorem vd_62 : (("_law_m" : Str) == ("__debug__" : Str)) = false := by decide +kernel
theorem vc_62 : (("_law_m" : Str) == ("__classdict__" : Str)) = false := by decide +kernel
theorem vd_63 : (("_law_take" : Str) == ("__debug__" : Str)) = false := by decide +kernel
theorem vd_64 : (("_law_kind" : Str) == ("__debug__" : Str)) = false := by decide +kernel
theorem vc_64 : (("_law_kind" : Str) == ("__classdict__" : Str)) = false := by decide +kernel
theorem vd_65 : (("_law_small" : Str) == ("__debug__" : Str)) = false := by decide +kernel
theorem vd_66 : (("_law_wide" : Str) == ("__debug__" : Str)) = false := by decide +kernel
theorem vc_66 : (("_law_wide" : Str) == ("__classdict__" : Str)) = false := by decide +kernel
theorem vd_67 : (("_law_number" : Str) == ("__debug__" : Str)) = false := by decide +kernel
theorem vd_68 : (("_law_bottom" : Str) == ("__debug__" : Str)) = false := by decide +kernel
theorem vc_68 : (("_law_bottom" : Str) == ("__classdict__" : Str)) = false := by decide +kernel
theorem vd_69 : (("_law_top" : Str) == ("__debug__" : Str)) = false := by decide +kernel
theorem vc_69 : (("_law_top" : Str) == ("__classdict__" : Str)) = false := by decide +kernel
theorem vd_70 : (("_law_other" : Str) == ("__debug__" : Str)) = false := by decide +kernel
theorem vc_70 : (("_law_other" : Str) == ("__classdict__" : Str)) = false := by decide +kernel
theorem vd_71 : (("_law_one" : Str) == ("__debug__" : Str)) = false := by decide +kernel
theorem vc_71 : (("_law_one" : Str) == ("__classdict__" : Str)) = false := by decide +kernel
theorem vd_72 : (("_law_sign" : Str) == ("__debug__" : Str)) = false := by decide +kernel
theorem vc_72 : (("_law_sign" : Str) == ("__classdict__" : Str)) = false := by decide +kernel
theorem vd_73 : (("_law_lowest" : Str) == ("__debug__" : Str)) = false := by decide +kernel
theorem vd_74 : (("_law_n" : Str) == ("__debug__" : Str)) = false := by decide +kernel
theorem vc_74 : (("_law_n" : Str) == ("__classdict__" : Str)) = false := by decide +kernel
theorem vd_75 : (("_law_i" : Str) == ("__debug__" : Str)) = false := by decide +kernel
theorem vc_75 : (("_law_i" : Str) == ("__classdict__" : Str)) = false := by decide +kernel
theorem vd_76 : (("_law_j" : Str) == ("__debug__" : Str)) = false := by decide +kernel
theorem vc_76 : (("_law_j" : Str) == ("__classdict__" : Str)) = false := by decide +kernel
theorem vd_77 : (("_law_steps" : Str) == ("__debug__" : Str)) = false := by decide +kernel
theorem vc_77 : (("_law_steps" : Str) == ("__classdict__" : Str)) = false := by decide +kernel
theorem vd_78 : (("max" : Str) == ("__debug__" : Str)) = false := by decide +kernel
theorem vd_79 : (("_law_by" : Str) == ("__debug__" : Str)) = false := by decide +kernel
theorem vc_79 : (("_law_by" : Str) == ("__classdict__" : Str)) = false := by decide +kernel
theorem vd_80 : (("_law_turn_here" : Str) == ("__debug__" : Str)) = false := by decide +kernel
theorem vc_80 : (("_law_turn_here" : Str) == ("__classdict__" : Str)) = false := by decide +kernel
theorem vd_81 : (("_law_back" : Str) == ("__debug__" : Str)) = false := by decide +kernel
theorem vc_81 : (("_law_back" : Str) == ("__classdict__" : Str)) = false := by decide +kernel
theorem vd_82 : (("_law_row" : Str) == ("__debug__" : Str)) = false := by decide +kernel
theorem vc_82 : (("_law_row" : Str) == ("__classdict__" : Str)) = false := by decide +kernel
theorem vd_83 : (("_law_third" : Str) == ("__debug__" : Str)) = false := by decide +kernel
theorem vc_83 : (("_law_third" : Str) == ("__classdict__" : Str)) = false := by decide +kernel
theorem vd_84 : (("plus" : Str) == ("__debug__" : Str)) = false := by decide +kernel
theorem vd_85 : (("minus" : Str) == ("__debug__" : Str)) = false := by decide +kernel
theorem vd_86 : (("over" : Str) == ("__debug__" : Str)) = false := by decide +kernel
theorem vd_87 : (("floor_of" : Str) == ("__debug__" : Str)) = false := by decide +kernel
theorem vd_88 : (("whole" : Str) == ("__debug__" : Str)) = false := by decide +kernel
theorem vd_89 : (("_law_low" : Str) == ("__debug__" : Str)) = false := by decide +kernel
theorem vc_89 : (("_law_low" : Str) == ("__classdict__" : Str)) = false := by decide +kernel
theorem vd_90 : (("before" : Str) == ("__debug__" : Str)) = false := by decide +kernel
theorem vd_91 : (("min" : Str) == ("__debug__" : Str)) = false := by decide +kernel
theorem vd_92 : (("_law_box" : Str) == ("__debug__" : Str)) = false := by decide +kernel
theorem vd_93 : (("_law_size" : Str) == ("__debug__" : Str)) = false := by decide +kernel
theorem vd_94 : (("_law_rows" : Str) == ("__debug__" : Str)) = false := by decide +kernel
theorem vd_95 : (("_law_ka" : Str) == ("__debug__" : Str)) = false := by decide +kernel
theorem vc_95 : (("_law_ka" : Str) == ("__classdict__" : Str)) = false := by decide +kernel
theorem vd_96 : (("measure" : Str) == ("__debug__" : Str)) = false := by decide +kernel
theorem vd_97 : (("_law_kb" : Str) == ("__debug__" : Str)) = false := by decide +kernel
theorem vc_97 : (("_law_kb" : Str) == ("__classdict__" : Str)) = false := by decide +kernel
theorem vd_98 : (("_law_found" : Str) == ("__debug__" : Str)) = false := by decide +kernel
theorem vc_98 : (("_law_found" : Str) == ("__classdict__" : Str)) = false := by decide +kernel
theorem vd_99 : (("turned_over" : Str) == ("__debug__" : Str)) = false := by decide +kernel
theorem vd_100 : (("_law_turn" : Str) == ("__debug__" : Str)) = false := by decide +kernel
theorem vd_101 : (("are_back" : Str) == ("__debug__" : Str)) = false := by decide +kernel
theorem vd_102 : (("_law_fraction" : Str) == ("__debug__" : Str)) = false := by decide +kernel
theorem vd_103 : (("_law_field" : Str) == ("__debug__" : Str)) = false := by decide +kernel
theorem vn_int : (("int" : Str)) ≠ "__name__" := by decide +kernel
theorem vn_isinstance : (("isinstance" : Str)) ≠ "__name__" := by decide +kernel
theorem vn_bool : (("bool" : Str)) ≠ "__name__" := by decide +kernel
theorem vn_tuple : (("tuple" : Str)) ≠ "__name__" := by decide +kernel
theorem vn_list : (("list" : Str)) ≠ "__name__" := by decide +kernel
theorem vn_len : (("len" : Str)) ≠ "__name__" := by decide +kernel
theorem vn_all : (("all" : Str)) ≠ "__name__" := by decide +kernel
theorem vn_abs : (("abs" : Str)) ≠ "__name__" := by decide +kernel
theorem vn_max : (("max" : Str)) ≠ "__name__" := by decide +kernel
theorem vn_min : (("min" : Str)) ≠ "__name__" := by decide +kernel
structure Bl (mg : Str → Option Value) : Prop where
  b_int : mg "int" = none
  b_isinstance : mg "isinstance" = none
  b_bool : mg "bool" = none
  b_tuple : mg "tuple" = none
  b_list : mg "list" = none
  b_len : mg "len" = none
  b_all : mg "all" = none
  b_zip : mg "zip" = none
  b_range : mg "range" = none
  b_abs : mg "abs" = none
  b_max : mg "max" = none
  b_min : mg "min" = none
section
variable {P : Program} {w : World} {K : PySem.W.Frag} {mg : Str → Option Value} {base : Heap}
abbrev s_is_number : Stmt := top 1
theorem vk_is_number_bool : (defScope s_is_number).names.lookup ("bool" : Str) = some .globalImplicit := by decide +kernel
theorem vk_is_number_int : (defScope s_is_number).names.lookup ("int" : Str) = some .globalImplicit := by decide +kernel
theorem vk_is_number_isinstance : (defScope s_is_number).names.lookup ("isinstance" : Str) = some .globalImplicit := by decide +kernel
theorem vk_is_number_thing : (defScope s_is_number).names.lookup ("thing" : Str) = some .local := by decide +kernel
theorem sc_is_number : FnScope N_is_number ["thing"] (defScope s_is_number) := ⟨rfl, rfl, rfl, by decide +kernel, rfl, by decide +kernel, by decide +kernel⟩
theorem ok_is_number {f : Addr} {fd : FuncData} (B : Bl mg) (F : DefAt K mg "is_number" "is_number" s_is_number ["thing"] f fd) :
    FnOk P w K mg base CX0 1 f fd ["thing"] (LSp S_is_number) :=
  j_def (N := N_is_number) F.fn sc_is_number (fun cdv A outer s H E hr => (jb_one (js_ret (j_and (j_cb x_isi (j_cons (j_name vd_1 vc_1 (Or.inl vk_is_number_thing)) (j_cons (j_ty B.b_int rfl vn_int vd_0 vk_is_number_int) j_nil)) B.b_isinstance rfl vn_isinstance vd_2 vk_is_number_isinstance) (j_one (j_not (j_cb x_isi (j_cons (j_name vd_1 vc_1 (Or.inl vk_is_number_thing)) (j_cons (j_ty B.b_bool rfl vn_bool vd_3 vk_is_number_bool) j_nil)) B.b_isinstance rfl vn_isinstance vd_2 vk_is_number_isinstance))))))) sp_is_number
abbrev s_is_listed : Stmt := top 2
theorem vk_is_listed_isinstance : (defScope s_is_listed).names.lookup ("isinstance" : Str) = some .globalImplicit := by decide +kernel
theorem vk_is_listed_list : (defScope s_is_listed).names.lookup ("list" : Str) = some .globalImplicit := by decide +kernel
theorem vk_is_listed_thing : (defScope s_is_listed).names.lookup ("thing" : Str) = some .local := by decide +kernel
theorem vk_is_listed_tuple : (defScope s_is_listed).names.lookup ("tuple" : Str) = some .globalImplicit := by decide +kernel
theorem sc_is_listed : FnScope N_is_listed ["thing"] (defScope s_is_listed) := ⟨rfl, rfl, rfl, by decide +kernel, rfl, by decide +kernel, by decide +kernel⟩
theorem ok_is_listed {f : Addr} {fd : FuncData} (B : Bl mg) (F : DefAt K mg "is_listed" "is_listed" s_is_listed ["thing"] f fd) :
    FnOk P w K mg base CX0 1 f fd ["thing"] (LSp S_is_listed) :=
  j_def (N := N_is_listed) F.fn sc_is_listed (fun cdv A outer s H E hr => (jb_one (js_ret (j_cb x_isi (j_cons (j_name vd_1 vc_1 (Or.inl vk_is_listed_thing)) (j_cons (j_tup (j_cons (j_ty B.b_list rfl vn_list vd_5 vk_is_listed_list) (j_cons (j_ty B.b_tuple rfl vn_tuple vd_4 vk_is_listed_tuple) j_nil))) j_nil)) B.b_isinstance rfl vn_isinstance vd_2 vk_is_listed_isinstance)))) sp_is_listed
abbrev s_is_listed_of : Stmt := top 3
theorem vk_is_listed_of_is_listed : (defScope s_is_listed_of).names.lookup ("is_listed" : Str) = some .globalImplicit := by decide +kernel
theorem vk_is_listed_of_len : (defScope s_is_listed_of).names.lookup ("len" : Str) = some .globalImplicit := by decide +kernel
theorem vk_is_listed_of_many : (defScope s_is_listed_of).names.lookup ("many" : Str) = some .local := by decide +kernel
theorem vk_is_listed_of_thing : (defScope s_is_listed_of).names.lookup ("thing" : Str) = some .local := by decide +kernel
theorem sc_is_listed_of : FnScope N_is_listed_of ["thing", "many"] (defScope s_is_listed_of) := ⟨rfl, rfl, rfl, by decide +kernel, rfl, by decide +kernel, by decide +kernel⟩
theorem ok_is_listed_of {f : Addr} {fd : FuncData} (B : Bl mg) (F : DefAt K mg "is_listed_of" "is_listed_of" s_is_listed_of ["thing", "many"] f fd) {a_is_listed : Addr} {d_is_listed : FuncData} (D_is_listed : DefAt K mg "is_listed" "is_listed" s_is_listed ["thing"] a_is_listed d_is_listed) (G_is_listed : FnOk P w K mg base CX0 1 a_is_listed d_is_listed ["thing"] (LSp S_is_listed)) :
    FnOk P w K mg base CX0 2 f fd ["thing", "many"] (LSp S_is_listed_of) :=
  j_def (N := N_is_listed_of) F.fn sc_is_listed_of (fun cdv A outer s H E hr => (jb_one (js_ret (j_and (j_fn D_is_listed G_is_listed (hr.mono (by decide)) (j_cons (j_name vd_1 vc_1 (Or.inl vk_is_listed_of_thing)) j_nil) vd_6 vk_is_listed_of_is_listed) (j_one (j_cmp (x_eq hr) (nomark _) (j_cb x_len (j_cons (j_name vd_1 vc_1 (Or.inl vk_is_listed_of_thing)) j_nil) B.b_len rfl vn_len vd_7 vk_is_listed_of_len) (j_name vd_8 vc_8 (Or.inl vk_is_listed_of_many)))))))) sp_is_listed_of
abbrev s_are_numbers : Stmt := top 4
theorem vk_are_numbers_all : (defScope s_are_numbers).names.lookup ("all" : Str) = some .globalImplicit := by decide +kernel
theorem vk_are_numbers_is_listed_of : (defScope s_are_numbers).names.lookup ("is_listed_of" : Str) = some .globalImplicit := by decide +kernel
theorem vk_are_numbers_many : (defScope s_are_numbers).names.lookup ("many" : Str) = some .local := by decide +kernel
theorem vk_are_numbers_thing : (defScope s_are_numbers).names.lookup ("thing" : Str) = some .local := by decide +kernel
theorem sc_are_numbers : FnScope N_are_numbers ["thing", "many"] (defScope s_are_numbers) := ⟨rfl, rfl, rfl, by decide +kernel, rfl, by decide +kernel, by decide +kernel⟩
theorem ok_are_numbers {f : Addr} {fd : FuncData} (B : Bl mg) (F : DefAt K mg "are_numbers" "are_numbers" s_are_numbers ["thing", "many"] f fd) {a_is_listed_of : Addr} {d_is_listed_of : FuncData} (D_is_listed_of : DefAt K mg "is_listed_of" "is_listed_of" s_is_listed_of ["thing", "many"] a_is_listed_of d_is_listed_of) (G_is_listed_of : FnOk P w K mg base CX0 2 a_is_listed_of d_is_listed_of ["thing", "many"] (LSp S_is_listed_of)) {a_is_number : Addr} {d_is_number : FuncData} (D_is_number : DefAt K mg "is_number" "is_number" s_is_number ["thing"] a_is_number d_is_number) (G_is_number : FnOk P w K mg base CX0 1 a_is_number d_is_number ["thing"] (LSp S_is_number)) :
    FnOk P w K mg base CX0 3 f fd ["thing", "many"] (LSp S_are_numbers) :=
  j_def (N := N_are_numbers) F.fn sc_are_numbers (fun cdv A outer s H E hr => (jb_one (js_ret (j_and (j_fn D_is_listed_of G_is_listed_of (hr.mono (by decide)) (j_cons (j_name vd_1 vc_1 (Or.inl vk_are_numbers_thing)) (j_cons (j_name vd_8 vc_8 (Or.inl vk_are_numbers_many)) j_nil)) vd_9 vk_are_numbers_is_listed_of) (j_one (j_cb (x_all rfl) (j_cons (j_comp (Nc := ["each"]) (CompSc.look (defScope s_are_numbers) ["thing", "many"] (by decide +kernel)) (j_seq (j_name vd_1 vc_1 (Or.inl vk_are_numbers_thing))) (fun _ _ _ _ => (j_tg (show (["each"] : List Str).Nodup by decide +kernel) (by first | exact Or.inl rfl | exact Or.inr rfl) (by first | exact .inl rfl | exact .inr rfl))) (fun _ _ _ _ => j_ctrue) (fun _ _ _ _ => (j_fn D_is_number G_is_number (hr.mono (by decide)) (j_cons (j_nameC vd_10 vc_10) j_nil) vd_11 rfl)) fit_name) j_nil) B.b_all rfl vn_all vd_12 vk_are_numbers_all)))))) sp_are_numbers
abbrev s_added : Stmt := top 6
theorem vk_added_other : (defScope s_added).names.lookup ("other" : Str) = some .local := by decide +kernel
theorem vk_added_row : (defScope s_added).names.lookup ("row" : Str) = some .local := by decide +kernel
theorem vk_added_zip : (defScope s_added).names.lookup ("zip" : Str) = some .globalImplicit := by decide +kernel
theorem sc_added : FnScope N_added ["row", "times", "other"] (defScope s_added) := ⟨rfl, rfl, rfl, by decide +kernel, rfl, by decide +kernel, by decide +kernel⟩
theorem ok_added {f : Addr} {fd : FuncData} (B : Bl mg) (F : DefAt K mg "added" "added" s_added ["row", "times", "other"] f fd) :
    FnOk P w K mg base CX0 1 f fd ["row", "times", "other"] (LSp S_added) :=
  j_def (N := N_added) F.fn sc_added (fun cdv A outer s H E hr => (jb_one (js_ret (j_comp (Nc := ["one", "two", "times"]) (CompSc.look (defScope s_added) ["row", "times", "other"] (by decide +kernel)) (j_zip vk_added_zip B.b_zip (j_cons (j_name vd_14 vc_14 (Or.inl vk_added_row)) (j_cons (j_name vd_13 vc_13 (Or.inl vk_added_other)) j_nil))) (fun _ _ _ _ => (j_tg2 rfl (show (["one", "two", "times"] : List Str).Nodup by decide +kernel) (by first | exact Or.inl rfl | exact Or.inr rfl) (by first | exact .inl rfl | exact .inr rfl) (by first | exact Or.inl rfl | exact Or.inr rfl) (by first | exact .inl rfl | exact .inr rfl))) (fun _ _ _ _ => j_ctrue) (fun _ _ _ _ => (j_op x_add (j_nameC vd_16 vc_16) (j_op x_mul (j_nameC vd_17 vc_17) (j_nameC vd_18 vc_18)))) fit_two)))) sp_added
abbrev s_sum_by : Stmt := top 7
theorem vk_sum_by_added : (defScope s_sum_by).names.lookup ("added" : Str) = some .globalImplicit := by decide +kernel
theorem vk_sum_by_row : (defScope s_sum_by).names.lookup ("row" : Str) = some .local := by decide +kernel
theorem vk_sum_by_rows : (defScope s_sum_by).names.lookup ("rows" : Str) = some .local := by decide +kernel
theorem vk_sum_by_total : (defScope s_sum_by).names.lookup ("total" : Str) = some .local := by decide +kernel
theorem vk_sum_by_tuple : (defScope s_sum_by).names.lookup ("tuple" : Str) = some .globalImplicit := by decide +kernel
theorem vk_sum_by_weight : (defScope s_sum_by).names.lookup ("weight" : Str) = some .local := by decide +kernel
theorem vk_sum_by_weights : (defScope s_sum_by).names.lookup ("weights" : Str) = some .local := by decide +kernel
theorem vk_sum_by_wide : (defScope s_sum_by).names.lookup ("wide" : Str) = some .local := by decide +kernel
theorem vk_sum_by_zip : (defScope s_sum_by).names.lookup ("zip" : Str) = some .globalImplicit := by decide +kernel
theorem sc_sum_by : FnScope N_sum_by ["weights", "rows", "wide"] (defScope s_sum_by) := ⟨rfl, rfl, rfl, by decide +kernel, rfl, by decide +kernel, by decide +kernel⟩
theorem ok_sum_by {f : Addr} {fd : FuncData} (B : Bl mg) (F : DefAt K mg "sum_by" "sum_by" s_sum_by ["weights", "rows", "wide"] f fd) {a_added : Addr} {d_added : FuncData} (D_added : DefAt K mg "added" "added" s_added ["row", "times", "other"] a_added d_added) (G_added : FnOk P w K mg base CX0 1 a_added d_added ["row", "times", "other"] (LSp S_added)) :
    FnOk P w K mg base CX0 2 f fd ["weights", "rows", "wide"] (LSp S_sum_by) :=
  j_def (N := N_sum_by) F.fn sc_sum_by (fun cdv A outer s H E hr => (jb_cons (js_set sc_sum_by.nd (Or.inl vk_sum_by_total) (j_op x_mul (j_lst (j_cons j_int j_nil)) (j_name vd_19 vc_19 (Or.inl vk_sum_by_wide))))
    (jb_cons (js_for (j_zip vk_sum_by_zip B.b_zip (j_cons (j_name vd_21 vc_21 (Or.inl vk_sum_by_weights)) (j_cons (j_name vd_20 vc_20 (Or.inl vk_sum_by_rows)) j_nil))) (j_tg2 rfl sc_sum_by.nd (by first | exact Or.inl rfl | exact Or.inr rfl) (by first | exact .inl rfl | exact .inr rfl) (by first | exact Or.inl rfl | exact Or.inr rfl) (by first | exact .inl rfl | exact .inr rfl)) (jb_one (js_set sc_sum_by.nd (Or.inl vk_sum_by_total) (j_fn D_added G_added (hr.mono (by decide)) (j_cons (j_name vd_23 vc_23 (Or.inl vk_sum_by_total)) (j_cons (j_name vd_22 vc_22 (Or.inl vk_sum_by_weight)) (j_cons (j_name vd_14 vc_14 (Or.inl vk_sum_by_row)) j_nil))) vd_24 vk_sum_by_added))))
    (jb_one (js_ret (j_ct x_tuple (j_cons (j_name vd_23 vc_23 (Or.inl vk_sum_by_total)) j_nil) B.b_tuple rfl vn_tuple vd_4 vk_sum_by_tuple)))))) sp_sum_by
abbrev s_product : Stmt := top 8
theorem vk_product_len : (defScope s_product).names.lookup ("len" : Str) = some .globalImplicit := by decide +kernel
theorem vk_product_one : (defScope s_product).names.lookup ("one" : Str) = some .local := by decide +kernel
theorem vk_product_other : (defScope s_product).names.lookup ("other" : Str) = some .cell := by decide +kernel
theorem vk_product_tuple : (defScope s_product).names.lookup ("tuple" : Str) = some .globalImplicit := by decide +kernel
theorem vk_product_wide : (defScope s_product).names.lookup ("wide" : Str) = some .cell := by decide +kernel
theorem sc_product : FnScope N_product ["one", "other"] (defScope s_product) := ⟨rfl, rfl, rfl, by decide +kernel, rfl, by decide +kernel, by decide +kernel⟩
theorem ok_product {f : Addr} {fd : FuncData} (B : Bl mg) (F : DefAt K mg "product" "product" s_product ["one", "other"] f fd) {a_sum_by : Addr} {d_sum_by : FuncData} (D_sum_by : DefAt K mg "sum_by" "sum_by" s_sum_by ["weights", "rows", "wide"] a_sum_by d_sum_by) (G_sum_by : FnOk P w K mg base CX0 2 a_sum_by d_sum_by ["weights", "rows", "wide"] (LSp S_sum_by)) :
    FnOk P w K mg base CX0 3 f fd ["one", "other"] (LSp S_product) :=
  j_def (N := N_product) F.fn sc_product (fun cdv A outer s H E hr => (jb_cons (js_set sc_product.nd (Or.inr vk_product_wide) (j_cb x_len (j_cons (j_ix (j_name vd_13 vc_13 (Or.inr (Or.inl vk_product_other))) j_int) j_nil) B.b_len rfl vn_len vd_7 vk_product_len))
    (jb_one (js_ret (j_ct x_tuple (j_cons (j_comp (Nc := ["weights", "other", "wide"]) (CompSc.look (defScope s_product) ["one", "other", "wide"] (by decide +kernel)) (j_seq (j_name vd_16 vc_16 (Or.inl vk_product_one))) (fun _ _ _ _ => (j_tg (show (["weights", "other", "wide"] : List Str).Nodup by decide +kernel) (by first | exact Or.inl rfl | exact Or.inr rfl) (by first | exact .inl rfl | exact .inr rfl))) (fun _ _ _ _ => j_ctrue) (fun _ _ _ _ => (j_fn D_sum_by G_sum_by (hr.mono (by decide)) (j_cons (j_nameC vd_21 vc_21) (j_cons (j_nameC vd_13 vc_13) (j_cons (j_nameC vd_19 vc_19) j_nil))) vd_25 rfl)) fit_name) j_nil) B.b_tuple rfl vn_tuple vd_4 vk_product_tuple))))) sp_product
abbrev s_column : Stmt := top 9
theorem vk_column_rows : (defScope s_column).names.lookup ("rows" : Str) = some .local := by decide +kernel
theorem vk_column_tuple : (defScope s_column).names.lookup ("tuple" : Str) = some .globalImplicit := by decide +kernel
theorem sc_column : FnScope N_column ["rows", "place"] (defScope s_column) := ⟨rfl, rfl, rfl, by decide +kernel, rfl, by decide +kernel, by decide +kernel⟩
theorem ok_column {f : Addr} {fd : FuncData} (B : Bl mg) (F : DefAt K mg "column" "column" s_column ["rows", "place"] f fd) :
    FnOk P w K mg base CX0 1 f fd ["rows", "place"] (LSp S_column) :=
  j_def (N := N_column) F.fn sc_column (fun cdv A outer s H E hr => (jb_one (js_ret (j_ct x_tuple (j_cons (j_comp (Nc := ["row", "place"]) (CompSc.look (defScope s_column) ["rows", "place"] (by decide +kernel)) (j_seq (j_name vd_20 vc_20 (Or.inl vk_column_rows))) (fun _ _ _ _ => (j_tg (show (["row", "place"] : List Str).Nodup by decide +kernel) (by first | exact Or.inl rfl | exact Or.inr rfl) (by first | exact .inl rfl | exact .inr rfl))) (fun _ _ _ _ => j_ctrue) (fun _ _ _ _ => (j_ix (j_nameC vd_14 vc_14) (j_nameC vd_26 vc_26))) fit_name) j_nil) B.b_tuple rfl vn_tuple vd_4 vk_column_tuple)))) sp_column
abbrev s_turned_over : Stmt := top 10
theorem vk_turned_over_range : (defScope s_turned_over).names.lookup ("range" : Str) = some .globalImplicit := by decide +kernel
theorem vk_turned_over_tuple : (defScope s_turned_over).names.lookup ("tuple" : Str) = some .globalImplicit := by decide +kernel
theorem vk_turned_over_wide : (defScope s_turned_over).names.lookup ("wide" : Str) = some .local := by decide +kernel
theorem sc_turned_over : FnScope N_turned_over ["rows", "wide"] (defScope s_turned_over) := ⟨rfl, rfl, rfl, by decide +kernel, rfl, by decide +kernel, by decide +kernel⟩
theorem ok_turned_over {f : Addr} {fd : FuncData} (B : Bl mg) (F : DefAt K mg "turned_over" "turned_over" s_turned_over ["rows", "wide"] f fd) {a_column : Addr} {d_column : FuncData} (D_column : DefAt K mg "column" "column" s_column ["rows", "place"] a_column d_column) (G_column : FnOk P w K mg base CX0 1 a_column d_column ["rows", "place"] (LSp S_column)) :
    FnOk P w K mg base CX0 2 f fd ["rows", "wide"] (LSp S_turned_over) :=
  j_def (N := N_turned_over) F.fn sc_turned_over (fun cdv A outer s H E hr => (jb_one (js_ret (j_ct x_tuple (j_cons (j_comp (Nc := ["place", "rows"]) (CompSc.look (defScope s_turned_over) ["rows", "wide"] (by decide +kernel)) (j_range1 vk_turned_over_range B.b_range (j_cons (j_name vd_19 vc_19 (Or.inl vk_turned_over_wide)) j_nil)) (fun _ _ _ _ => (j_tg (show (["place", "rows"] : List Str).Nodup by decide +kernel) (by first | exact Or.inl rfl | exact Or.inr rfl) (by first | exact .inl rfl | exact .inr rfl))) (fun _ _ _ _ => j_ctrue) (fun _ _ _ _ => (j_fn D_column G_column (hr.mono (by decide)) (j_cons (j_nameC vd_20 vc_20) (j_cons (j_nameC vd_26 vc_26) j_nil)) vd_28 rfl)) fit_name) j_nil) B.b_tuple rfl vn_tuple vd_4 vk_turned_over_tuple)))) sp_turned_over
abbrev s_unit_row : Stmt := top 11
theorem vk_unit_row_n : (defScope s_unit_row).names.lookup ("n" : Str) = some .local := by decide +kernel
theorem vk_unit_row_range : (defScope s_unit_row).names.lookup ("range" : Str) = some .globalImplicit := by decide +kernel
theorem vk_unit_row_tuple : (defScope s_unit_row).names.lookup ("tuple" : Str) = some .globalImplicit := by decide +kernel
theorem sc_unit_row : FnScope N_unit_row ["n", "place"] (defScope s_unit_row) := ⟨rfl, rfl, rfl, by decide +kernel, rfl, by decide +kernel, by decide +kernel⟩
theorem ok_unit_row {f : Addr} {fd : FuncData} (B : Bl mg) (F : DefAt K mg "unit_row" "unit_row" s_unit_row ["n", "place"] f fd) :
    FnOk P w K mg base CX0 1 f fd ["n", "place"] (LSp S_unit_row) :=
  j_def (N := N_unit_row) F.fn sc_unit_row (fun cdv A outer s H E hr => (jb_one (js_ret (j_ct x_tuple (j_cons (j_comp (Nc := ["k", "place"]) (CompSc.look (defScope s_unit_row) ["n", "place"] (by decide +kernel)) (j_range1 vk_unit_row_range B.b_range (j_cons (j_name vd_29 vc_29 (Or.inl vk_unit_row_n)) j_nil)) (fun _ _ _ _ => (j_tg (show (["k", "place"] : List Str).Nodup by decide +kernel) (by first | exact Or.inl rfl | exact Or.inr rfl) (by first | exact .inl rfl | exact .inr rfl))) (fun _ _ _ _ => j_ctrue) (fun _ _ _ _ => (j_ifE (j_tcmp (x_eq hr) (nomark _) (j_nameC vd_30 vc_30) (j_nameC vd_26 vc_26)) j_int j_int)) fit_name) j_nil) B.b_tuple rfl vn_tuple vd_4 vk_unit_row_tuple)))) sp_unit_row
abbrev s_unit_rows : Stmt := top 12
theorem vk_unit_rows_n : (defScope s_unit_rows).names.lookup ("n" : Str) = some .cell := by decide +kernel
theorem vk_unit_rows_range : (defScope s_unit_rows).names.lookup ("range" : Str) = some .globalImplicit := by decide +kernel
theorem vk_unit_rows_tuple : (defScope s_unit_rows).names.lookup ("tuple" : Str) = some .globalImplicit := by decide +kernel
theorem sc_unit_rows : FnScope N_unit_rows ["n"] (defScope s_unit_rows) := ⟨rfl, rfl, rfl, by decide +kernel, rfl, by decide +kernel, by decide +kernel⟩
theorem ok_unit_rows {f : Addr} {fd : FuncData} (B : Bl mg) (F : DefAt K mg "unit_rows" "unit_rows" s_unit_rows ["n"] f fd) {a_unit_row : Addr} {d_unit_row : FuncData} (D_unit_row : DefAt K mg "unit_row" "unit_row" s_unit_row ["n", "place"] a_unit_row d_unit_row) (G_unit_row : FnOk P w K mg base CX0 1 a_unit_row d_unit_row ["n", "place"] (LSp S_unit_row)) :
    FnOk P w K mg base CX0 2 f fd ["n"] (LSp S_unit_rows) :=
  j_def (N := N_unit_rows) F.fn sc_unit_rows (fun cdv A outer s H E hr => (jb_one (js_ret (j_ct x_tuple (j_cons (j_comp (Nc := ["place", "n"]) (CompSc.look (defScope s_unit_rows) ["n"] (by decide +kernel)) (j_range1 vk_unit_rows_range B.b_range (j_cons (j_name vd_29 vc_29 (Or.inr (Or.inl vk_unit_rows_n))) j_nil)) (fun _ _ _ _ => (j_tg (show (["place", "n"] : List Str).Nodup by decide +kernel) (by first | exact Or.inl rfl | exact Or.inr rfl) (by first | exact .inl rfl | exact .inr rfl))) (fun _ _ _ _ => j_ctrue) (fun _ _ _ _ => (j_fn D_unit_row G_unit_row (hr.mono (by decide)) (j_cons (j_nameC vd_29 vc_29) (j_cons (j_nameC vd_26 vc_26) j_nil)) vd_31 rfl)) fit_name) j_nil) B.b_tuple rfl vn_tuple vd_4 vk_unit_rows_tuple)))) sp_unit_rows
abbrev s_is_rows : Stmt := top 13
theorem vk_is_rows_all : (defScope s_is_rows).names.lookup ("all" : Str) = some .globalImplicit := by decide +kernel
theorem vk_is_rows_is_listed : (defScope s_is_rows).names.lookup ("is_listed" : Str) = some .globalImplicit := by decide +kernel
theorem vk_is_rows_len : (defScope s_is_rows).names.lookup ("len" : Str) = some .globalImplicit := by decide +kernel
theorem vk_is_rows_many : (defScope s_is_rows).names.lookup ("many" : Str) = some .local := by decide +kernel
theorem vk_is_rows_thing : (defScope s_is_rows).names.lookup ("thing" : Str) = some .local := by decide +kernel
theorem sc_is_rows : FnScope N_is_rows ["thing", "many", "wide"] (defScope s_is_rows) := ⟨rfl, rfl, rfl, by decide +kernel, rfl, by decide +kernel, by decide +kernel⟩
theorem ok_is_rows {f : Addr} {fd : FuncData} (B : Bl mg) (F : DefAt K mg "is_rows" "is_rows" s_is_rows ["thing", "many", "wide"] f fd) {a_is_listed : Addr} {d_is_listed : FuncData} (D_is_listed : DefAt K mg "is_listed" "is_listed" s_is_listed ["thing"] a_is_listed d_is_listed) (G_is_listed : FnOk P w K mg base CX0 1 a_is_listed d_is_listed ["thing"] (LSp S_is_listed)) {a_are_numbers : Addr} {d_are_numbers : FuncData} (D_are_numbers : DefAt K mg "are_numbers" "are_numbers" s_are_numbers ["thing", "many"] a_are_numbers d_are_numbers) (G_are_numbers : FnOk P w K mg base CX0 3 a_are_numbers d_are_numbers ["thing", "many"] (LSp S_are_numbers)) :
    FnOk P w K mg base CX0 4 f fd ["thing", "many", "wide"] (LSp S_is_rows) :=
  j_def (N := N_is_rows) F.fn sc_is_rows (fun cdv A outer s H E hr => (jb_cons (js_if (j_tnot (j_tval (j_fn D_is_listed G_is_listed (hr.mono (by decide)) (j_cons (j_name vd_1 vc_1 (Or.inl vk_is_rows_thing)) j_nil) vd_6 vk_is_rows_is_listed))) (jb_one (js_ret j_bl)) jb_nil)
    (jb_cons (js_if (j_wpt (j_wand (j_tcmp x_isnt (nomark _) (j_name vd_8 vc_8 (Or.inl vk_is_rows_many)) j_non) (j_wand1 (j_tcmp x_ne (nomark _) (j_cb x_len (j_cons (j_name vd_1 vc_1 (Or.inl vk_is_rows_thing)) j_nil) B.b_len rfl vn_len vd_7 vk_is_rows_len) (j_name vd_8 vc_8 (Or.inl vk_is_rows_many)))))) (jb_one (js_ret j_bl)) jb_nil)
    (jb_one (js_ret (j_cb (x_all rfl) (j_cons (j_comp (Nc := ["row", "wide"]) (CompSc.look (defScope s_is_rows) ["thing", "many", "wide"] (by decide +kernel)) (j_seq (j_name vd_1 vc_1 (Or.inl vk_is_rows_thing))) (fun _ _ _ _ => (j_tg (show (["row", "wide"] : List Str).Nodup by decide +kernel) (by first | exact Or.inl rfl | exact Or.inr rfl) (by first | exact .inl rfl | exact .inr rfl))) (fun _ _ _ _ => j_ctrue) (fun _ _ _ _ => (j_fn D_are_numbers G_are_numbers (hr.mono (by decide)) (j_cons (j_nameC vd_14 vc_14) (j_cons (j_nameC vd_19 vc_19) j_nil)) vd_32 rfl)) fit_name) j_nil) B.b_all rfl vn_all vd_12 vk_is_rows_all)))))) sp_is_rows
abbrev s_are_back : Stmt := top 14
theorem vk_are_back_back : (defScope s_are_back).names.lookup ("back" : Str) = some .local := by decide +kernel
theorem vk_are_back_is_listed : (defScope s_are_back).names.lookup ("is_listed" : Str) = some .globalImplicit := by decide +kernel
theorem vk_are_back_is_rows : (defScope s_are_back).names.lookup ("is_rows" : Str) = some .globalImplicit := by decide +kernel
theorem vk_are_back_len : (defScope s_are_back).names.lookup ("len" : Str) = some .globalImplicit := by decide +kernel
theorem vk_are_back_many : (defScope s_are_back).names.lookup ("many" : Str) = some .local := by decide +kernel
theorem vk_are_back_product : (defScope s_are_back).names.lookup ("product" : Str) = some .globalImplicit := by decide +kernel
theorem vk_are_back_turn : (defScope s_are_back).names.lookup ("turn" : Str) = some .local := by decide +kernel
theorem vk_are_back_unit_rows : (defScope s_are_back).names.lookup ("unit_rows" : Str) = some .globalImplicit := by decide +kernel
theorem sc_are_back : FnScope N_are_back ["turn", "back"] (defScope s_are_back) := ⟨rfl, rfl, rfl, by decide +kernel, rfl, by decide +kernel, by decide +kernel⟩
theorem ok_are_back {f : Addr} {fd : FuncData} (B : Bl mg) (F : DefAt K mg "are_back" "are_back" s_are_back ["turn", "back"] f fd) {a_is_listed : Addr} {d_is_listed : FuncData} (D_is_listed : DefAt K mg "is_listed" "is_listed" s_is_listed ["thing"] a_is_listed d_is_listed) (G_is_listed : FnOk P w K mg base CX0 1 a_is_listed d_is_listed ["thing"] (LSp S_is_listed)) {a_is_rows : Addr} {d_is_rows : FuncData} (D_is_rows : DefAt K mg "is_rows" "is_rows" s_is_rows ["thing", "many", "wide"] a_is_rows d_is_rows) (G_is_rows : FnOk P w K mg base CX0 4 a_is_rows d_is_rows ["thing", "many", "wide"] (LSp S_is_rows)) {a_product : Addr} {d_product : FuncData} (D_product : DefAt K mg "product" "product" s_product ["one", "other"] a_product d_product) (G_product : FnOk P w K mg base CX0 3 a_product d_product ["one", "other"] (LSp S_product)) {a_unit_rows : Addr} {d_unit_rows : FuncData} (D_unit_rows : DefAt K mg "unit_rows" "unit_rows" s_unit_rows ["n"] a_unit_rows d_unit_rows) (G_unit_rows : FnOk P w K mg base CX0 2 a_unit_rows d_unit_rows ["n"] (LSp S_unit_rows)) :
    FnOk P w K mg base CX0 5 f fd ["turn", "back"] (LSp S_are_back) :=
  j_def (N := N_are_back) F.fn sc_are_back (fun cdv A outer s H E hr => (jb_cons (js_if (j_tnot (j_tval (j_fn D_is_listed G_is_listed (hr.mono (by decide)) (j_cons (j_name vd_33 vc_33 (Or.inl vk_are_back_turn)) j_nil) vd_6 vk_are_back_is_listed))) (jb_one (js_ret j_bl)) jb_nil)
    (jb_cons (js_set sc_are_back.nd (Or.inl vk_are_back_many) (j_cb x_len (j_cons (j_name vd_33 vc_33 (Or.inl vk_are_back_turn)) j_nil) B.b_len rfl vn_len vd_7 vk_are_back_len))
    (jb_cons (js_if (j_wpt (j_wor (j_tnot (j_tval (j_fn D_is_rows G_is_rows (hr.mono (by decide)) (j_cons (j_name vd_33 vc_33 (Or.inl vk_are_back_turn)) (j_cons (j_name vd_8 vc_8 (Or.inl vk_are_back_many)) (j_cons (j_name vd_8 vc_8 (Or.inl vk_are_back_many)) j_nil))) vd_34 vk_are_back_is_rows))) (j_wor1 (j_tnot (j_tval (j_fn D_is_rows G_is_rows (hr.mono (by decide)) (j_cons (j_name vd_35 vc_35 (Or.inl vk_are_back_back)) (j_cons (j_name vd_8 vc_8 (Or.inl vk_are_back_many)) (j_cons (j_name vd_8 vc_8 (Or.inl vk_are_back_many)) j_nil))) vd_34 vk_are_back_is_rows)))))) (jb_one (js_ret j_bl)) jb_nil)
    (jb_one (js_ret (j_or (j_cmp (x_eq hr) (nomark _) (j_name vd_8 vc_8 (Or.inl vk_are_back_many)) j_int) (j_one (j_cmp (x_eq hr) (nomark _) (j_fn D_product G_product (hr.mono (by decide)) (j_cons (j_name vd_33 vc_33 (Or.inl vk_are_back_turn)) (j_cons (j_name vd_35 vc_35 (Or.inl vk_are_back_back)) j_nil)) vd_36 vk_are_back_product) (j_fn D_unit_rows G_unit_rows (hr.mono (by decide)) (j_cons (j_name vd_8 vc_8 (Or.inl vk_are_back_many)) j_nil) vd_37 vk_are_back_unit_rows)))))))))) sp_are_back
abbrev s_row_to_divide_by : Stmt := top 15
theorem vk_row_to_divide_by_k : (defScope s_row_to_divide_by).names.lookup ("k" : Str) = some .local := by decide +kernel
theorem vk_row_to_divide_by_len : (defScope s_row_to_divide_by).names.lookup ("len" : Str) = some .globalImplicit := by decide +kernel
theorem vk_row_to_divide_by_place : (defScope s_row_to_divide_by).names.lookup ("place" : Str) = some .local := by decide +kernel
theorem vk_row_to_divide_by_range : (defScope s_row_to_divide_by).names.lookup ("range" : Str) = some .globalImplicit := by decide +kernel
theorem vk_row_to_divide_by_rows : (defScope s_row_to_divide_by).names.lookup ("rows" : Str) = some .local := by decide +kernel
theorem sc_row_to_divide_by : FnScope N_row_to_divide_by ["rows", "place"] (defScope s_row_to_divide_by) := ⟨rfl, rfl, rfl, by decide +kernel, rfl, by decide +kernel, by decide +kernel⟩
theorem ok_row_to_divide_by {f : Addr} {fd : FuncData} (B : Bl mg) (F : DefAt K mg "row_to_divide_by" "row_to_divide_by" s_row_to_divide_by ["rows", "place"] f fd) :
    FnOk P w K mg base CX0 1 f fd ["rows", "place"] (LSp S_row_to_divide_by) :=
  j_def (N := N_row_to_divide_by) F.fn sc_row_to_divide_by (fun cdv A outer s H E hr => (jb_cons (js_for (j_range2 vk_row_to_divide_by_range B.b_range (j_cons (j_name vd_26 vc_26 (Or.inl vk_row_to_divide_by_place)) (j_cons (j_cb x_len (j_cons (j_name vd_20 vc_20 (Or.inl vk_row_to_divide_by_rows)) j_nil) B.b_len rfl vn_len vd_7 vk_row_to_divide_by_len) j_nil))) (j_tg sc_row_to_divide_by.nd (by first | exact Or.inl rfl | exact Or.inr rfl) (by first | exact .inl rfl | exact .inr rfl)) (jb_one (js_if (j_tcmp x_ne (nomark _) (j_ix (j_ix (j_name vd_20 vc_20 (Or.inl vk_row_to_divide_by_rows)) (j_name vd_30 vc_30 (Or.inl vk_row_to_divide_by_k))) (j_name vd_26 vc_26 (Or.inl vk_row_to_divide_by_place))) j_int) (jb_one (js_ret (j_name vd_30 vc_30 (Or.inl vk_row_to_divide_by_k)))) jb_nil)))
    (jb_one (js_ret j_non)))) sp_row_to_divide_by
abbrev s_row_below : Stmt := top 16
theorem vk_row_below_head : (defScope s_row_below).names.lookup ("head" : Str) = some .cell := by decide +kernel
theorem vk_row_below_row : (defScope s_row_below).names.lookup ("row" : Str) = some .cell := by decide +kernel
theorem vk_row_below_zip : (defScope s_row_below).names.lookup ("zip" : Str) = some .globalImplicit := by decide +kernel
theorem sc_row_below : FnScope N_row_below ["row", "head", "place", "divisor"] (defScope s_row_below) := ⟨rfl, rfl, rfl, by decide +kernel, rfl, by decide +kernel, by decide +kernel⟩
theorem ok_row_below {f : Addr} {fd : FuncData} (B : Bl mg) (F : DefAt K mg "row_below" "row_below" s_row_below ["row", "head", "place", "divisor"] f fd) :
    FnOk P w K mg base CX0 1 f fd ["row", "head", "place", "divisor"] (LSp S_row_below) :=
  j_def (N := N_row_below) F.fn sc_row_below (fun cdv A outer s H E hr => (jb_one (js_ret (j_comp (Nc := ["own", "above", "head", "place", "row", "divisor"]) (CompSc.look (defScope s_row_below) ["row", "head", "place", "divisor"] (by decide +kernel)) (j_zip vk_row_below_zip B.b_zip (j_cons (j_name vd_14 vc_14 (Or.inr (Or.inl vk_row_below_row))) (j_cons (j_name vd_38 vc_38 (Or.inr (Or.inl vk_row_below_head))) j_nil))) (fun _ _ _ _ => (j_tg2 rfl (show (["own", "above", "head", "place", "row", "divisor"] : List Str).Nodup by decide +kernel) (by first | exact Or.inl rfl | exact Or.inr rfl) (by first | exact .inl rfl | exact .inr rfl) (by first | exact Or.inl rfl | exact Or.inr rfl) (by first | exact .inl rfl | exact .inr rfl))) (fun _ _ _ _ => j_ctrue) (fun _ _ _ _ => (j_op x_fdiv (j_op x_sub (j_op x_mul (j_ix (j_nameC vd_38 vc_38) (j_nameC vd_26 vc_26)) (j_nameC vd_39 vc_39)) (j_op x_mul (j_ix (j_nameC vd_14 vc_14) (j_nameC vd_26 vc_26)) (j_nameC vd_40 vc_40))) (j_nameC vd_41 vc_41))) fit_two)))) sp_row_below
abbrev s_measure : Stmt := top 17
theorem vk_measure_divisor : (defScope s_measure).names.lookup ("divisor" : Str) = some .local := by decide +kernel
theorem vk_measure_found : (defScope s_measure).names.lookup ("found" : Str) = some .local := by decide +kernel
theorem vk_measure_head : (defScope s_measure).names.lookup ("head" : Str) = some .local := by decide +kernel
theorem vk_measure_k : (defScope s_measure).names.lookup ("k" : Str) = some .local := by decide +kernel
theorem vk_measure_left : (defScope s_measure).names.lookup ("left" : Str) = some .local := by decide +kernel
theorem vk_measure_len : (defScope s_measure).names.lookup ("len" : Str) = some .globalImplicit := by decide +kernel
theorem vk_measure_many : (defScope s_measure).names.lookup ("many" : Str) = some .local := by decide +kernel
theorem vk_measure_place : (defScope s_measure).names.lookup ("place" : Str) = some .local := by decide +kernel
theorem vk_measure_range : (defScope s_measure).names.lookup ("range" : Str) = some .globalImplicit := by decide +kernel
theorem vk_measure_row_below : (defScope s_measure).names.lookup ("row_below" : Str) = some .globalImplicit := by decide +kernel
theorem vk_measure_row_to_divide_by : (defScope s_measure).names.lookup ("row_to_divide_by" : Str) = some .globalImplicit := by decide +kernel
theorem vk_measure_rows : (defScope s_measure).names.lookup ("rows" : Str) = some .local := by decide +kernel
theorem vk_measure_sign : (defScope s_measure).names.lookup ("sign" : Str) = some .local := by decide +kernel
theorem sc_measure : FnScope N_measure ["rows"] (defScope s_measure) := ⟨rfl, rfl, rfl, by decide +kernel, rfl, by decide +kernel, by decide +kernel⟩
theorem ok_measure {f : Addr} {fd : FuncData} (B : Bl mg) (F : DefAt K mg "measure" "measure" s_measure ["rows"] f fd) {a_row_to_divide_by : Addr} {d_row_to_divide_by : FuncData} (D_row_to_divide_by : DefAt K mg "row_to_divide_by" "row_to_divide_by" s_row_to_divide_by ["rows", "place"] a_row_to_divide_by d_row_to_divide_by) (G_row_to_divide_by : FnOk P w K mg base CX0 1 a_row_to_divide_by d_row_to_divide_by ["rows", "place"] (LSp S_row_to_divide_by)) {a_row_below : Addr} {d_row_below : FuncData} (D_row_below : DefAt K mg "row_below" "row_below" s_row_below ["row", "head", "place", "divisor"] a_row_below d_row_below) (G_row_below : FnOk P w K mg base CX0 1 a_row_below d_row_below ["row", "head", "place", "divisor"] (LSp S_row_below)) :
    FnOk P w K mg base CX0 2 f fd ["rows"] (LSp S_measure) :=
  j_def (N := N_measure) F.fn sc_measure (fun cdv A outer s H E hr => (jb_cons (js_set sc_measure.nd (Or.inl vk_measure_many) (j_cb x_len (j_cons (j_name vd_20 vc_20 (Or.inl vk_measure_rows)) j_nil) B.b_len rfl vn_len vd_7 vk_measure_len))
    (jb_cons (js_setCN sc_measure.nd (Or.inl vk_measure_left) (Nc := ["row"]) (CompSc.look (defScope s_measure) ["rows", "many", "left", "sign", "divisor", "place", "found", "head", "k"] (by decide +kernel)) (j_seq (j_name vd_20 vc_20 (Or.inl vk_measure_rows))) (fun _ _ _ _ => (j_tg (show (["row"] : List Str).Nodup by decide +kernel) (by first | exact Or.inl rfl | exact Or.inr rfl) (by first | exact .inl rfl | exact .inr rfl))) (fun _ _ _ _ => j_ctrue) (fun _ _ _ _ => (j_ct x_list (j_cons (j_nameC vd_14 vc_14) j_nil) B.b_list rfl vn_list vd_5 rfl)) fit_name)
    (jb_cons (js_set sc_measure.nd (Or.inl vk_measure_sign) j_int)
    (jb_cons (js_set sc_measure.nd (Or.inl vk_measure_divisor) j_int)
    (jb_cons (js_for (j_range1 vk_measure_range B.b_range (j_cons (j_name vd_8 vc_8 (Or.inl vk_measure_many)) j_nil)) (j_tg sc_measure.nd (by first | exact Or.inl rfl | exact Or.inr rfl) (by first | exact .inl rfl | exact .inr rfl)) (jb_cons (js_set sc_measure.nd (Or.inl vk_measure_found) (j_fn D_row_to_divide_by G_row_to_divide_by (hr.mono (by decide)) (j_cons (j_name vd_42 vc_42 (Or.inl vk_measure_left)) (j_cons (j_name vd_26 vc_26 (Or.inl vk_measure_place)) j_nil)) vd_43 vk_measure_row_to_divide_by))
    (jb_cons (js_if (j_tcmp x_is (nomark _) (j_name vd_44 vc_44 (Or.inl vk_measure_found)) j_non) (jb_one (js_ret j_int)) jb_nil)
    (jb_cons (js_set sc_measure.nd (Or.inl vk_measure_head) (j_ix (j_name vd_42 vc_42 (Or.inl vk_measure_left)) (j_name vd_44 vc_44 (Or.inl vk_measure_found))))
    (jb_cons (js_if (j_tcmp x_ne (nomark _) (j_name vd_44 vc_44 (Or.inl vk_measure_found)) (j_name vd_26 vc_26 (Or.inl vk_measure_place))) (jb_cons (js_setIx (j_ix (j_name vd_42 vc_42 (Or.inl vk_measure_left)) (j_name vd_26 vc_26 (Or.inl vk_measure_place))) (j_name vd_42 vc_42 (Or.inl vk_measure_left)) (j_name vd_44 vc_44 (Or.inl vk_measure_found)))
    (jb_cons (js_setIx (j_name vd_38 vc_38 (Or.inl vk_measure_head)) (j_name vd_42 vc_42 (Or.inl vk_measure_left)) (j_name vd_26 vc_26 (Or.inl vk_measure_place)))
    (jb_one (js_set sc_measure.nd (Or.inl vk_measure_sign) (j_neg (j_name vd_45 vc_45 (Or.inl vk_measure_sign))))))) jb_nil)
    (jb_cons (js_for (j_range2 vk_measure_range B.b_range (j_cons (j_op x_add (j_name vd_26 vc_26 (Or.inl vk_measure_place)) j_int) (j_cons (j_name vd_8 vc_8 (Or.inl vk_measure_many)) j_nil))) (j_tg sc_measure.nd (by first | exact Or.inl rfl | exact Or.inr rfl) (by first | exact .inl rfl | exact .inr rfl)) (jb_one (js_setIx (j_fn D_row_below G_row_below (hr.mono (by decide)) (j_cons (j_ix (j_name vd_42 vc_42 (Or.inl vk_measure_left)) (j_name vd_30 vc_30 (Or.inl vk_measure_k))) (j_cons (j_name vd_38 vc_38 (Or.inl vk_measure_head)) (j_cons (j_name vd_26 vc_26 (Or.inl vk_measure_place)) (j_cons (j_name vd_41 vc_41 (Or.inl vk_measure_divisor)) j_nil)))) vd_46 vk_measure_row_below) (j_name vd_42 vc_42 (Or.inl vk_measure_left)) (j_name vd_30 vc_30 (Or.inl vk_measure_k)))))
    (jb_one (js_set sc_measure.nd (Or.inl vk_measure_divisor) (j_ix (j_name vd_38 vc_38 (Or.inl vk_measure_head)) (j_name vd_26 vc_26 (Or.inl vk_measure_place)))))))))))
    (jb_one (js_ret (j_op x_mul (j_name vd_45 vc_45 (Or.inl vk_measure_sign)) (j_name vd_41 vc_41 (Or.inl vk_measure_divisor))))))))))) sp_measure
abbrev s_common : Stmt := top 19
theorem vk_common_abs : (defScope s_common).names.lookup ("abs" : Str) = some .globalImplicit := by decide +kernel
theorem vk_common_great : (defScope s_common).names.lookup ("great" : Str) = some .local := by decide +kernel
theorem vk_common_one : (defScope s_common).names.lookup ("one" : Str) = some .local := by decide +kernel
theorem vk_common_other : (defScope s_common).names.lookup ("other" : Str) = some .local := by decide +kernel
theorem vk_common_rest : (defScope s_common).names.lookup ("rest" : Str) = some .local := by decide +kernel
theorem vk_common_small : (defScope s_common).names.lookup ("small" : Str) = some .local := by decide +kernel
theorem sc_common : FnScope N_common ["one", "other"] (defScope s_common) := ⟨rfl, rfl, rfl, by decide +kernel, rfl, by decide +kernel, by decide +kernel⟩
theorem ok_common {f : Addr} {fd : FuncData} (B : Bl mg) (F : DefAt K mg "common" "common" s_common ["one", "other"] f fd) :
    FnOk P w K mg base CX0 1 f fd ["one", "other"] (LSp S_common) :=
  j_def (N := N_common) F.fn sc_common (fun cdv A outer s H E hr => (jb_cons (js_set sc_common.nd (Or.inl vk_common_great) (j_cb x_abs (j_cons (j_name vd_16 vc_16 (Or.inl vk_common_one)) j_nil) B.b_abs rfl vn_abs vd_47 vk_common_abs))
    (jb_cons (js_set sc_common.nd (Or.inl vk_common_small) (j_cb x_abs (j_cons (j_name vd_13 vc_13 (Or.inl vk_common_other)) j_nil) B.b_abs rfl vn_abs vd_47 vk_common_abs))
    (jb_cons (js_while (j_tcmp x_ne (nomark _) (j_name vd_48 vc_48 (Or.inl vk_common_small)) j_int) (jb_cons (js_set sc_common.nd (Or.inl vk_common_rest) (j_op x_mod (j_name vd_49 vc_49 (Or.inl vk_common_great)) (j_name vd_48 vc_48 (Or.inl vk_common_small))))
    (jb_cons (js_set sc_common.nd (Or.inl vk_common_great) (j_name vd_48 vc_48 (Or.inl vk_common_small)))
    (jb_one (js_set sc_common.nd (Or.inl vk_common_small) (j_name vd_50 vc_50 (Or.inl vk_common_rest)))))))
    (jb_one (js_ret (j_name vd_49 vc_49 (Or.inl vk_common_great)))))))) sp_common
abbrev s_part : Stmt := top 20
theorem vk_part_bottom : (defScope s_part).names.lookup ("bottom" : Str) = some .local := by decide +kernel
theorem vk_part_common : (defScope s_part).names.lookup ("common" : Str) = some .globalImplicit := by decide +kernel
theorem vk_part_shrink : (defScope s_part).names.lookup ("shrink" : Str) = some .local := by decide +kernel
theorem vk_part_top : (defScope s_part).names.lookup ("top" : Str) = some .local := by decide +kernel
theorem sc_part : FnScope N_part ["top", "bottom"] (defScope s_part) := ⟨rfl, rfl, rfl, by decide +kernel, rfl, by decide +kernel, by decide +kernel⟩
theorem ok_part {f : Addr} {fd : FuncData} (B : Bl mg) (F : DefAt K mg "part" "part" s_part ["top", "bottom"] f fd) {a_common : Addr} {d_common : FuncData} (D_common : DefAt K mg "common" "common" s_common ["one", "other"] a_common d_common) (G_common : FnOk P w K mg base CX0 1 a_common d_common ["one", "other"] (LSp S_common)) :
    FnOk P w K mg base CX0 2 f fd ["top", "bottom"] (LSp S_part) :=
  j_def (N := N_part) F.fn sc_part (fun cdv A outer s H E hr => (jb_cons (js_set sc_part.nd (Or.inl vk_part_shrink) (j_fn D_common G_common (hr.mono (by decide)) (j_cons (j_name vd_52 vc_52 (Or.inl vk_part_top)) (j_cons (j_name vd_51 vc_51 (Or.inl vk_part_bottom)) j_nil)) vd_53 vk_part_common))
    (jb_cons (js_if (j_tcmp x_lt (nomark _) (j_name vd_51 vc_51 (Or.inl vk_part_bottom)) j_int) (jb_one (js_set sc_part.nd (Or.inl vk_part_shrink) (j_neg (j_name vd_54 vc_54 (Or.inl vk_part_shrink))))) jb_nil)
    (jb_one (js_ret (j_tup (j_cons (j_op x_fdiv (j_name vd_52 vc_52 (Or.inl vk_part_top)) (j_name vd_54 vc_54 (Or.inl vk_part_shrink))) (j_cons (j_op x_fdiv (j_name vd_51 vc_51 (Or.inl vk_part_bottom)) (j_name vd_54 vc_54 (Or.inl vk_part_shrink))) j_nil)))))))) sp_part
abbrev s_plus : Stmt := top 21
theorem vk_plus_one : (defScope s_plus).names.lookup ("one" : Str) = some .local := by decide +kernel
theorem vk_plus_other : (defScope s_plus).names.lookup ("other" : Str) = some .local := by decide +kernel
theorem vk_plus_part : (defScope s_plus).names.lookup ("part" : Str) = some .globalImplicit := by decide +kernel
theorem sc_plus : FnScope N_plus ["one", "other"] (defScope s_plus) := ⟨rfl, rfl, rfl, by decide +kernel, rfl, by decide +kernel, by decide +kernel⟩
theorem ok_plus {f : Addr} {fd : FuncData} (B : Bl mg) (F : DefAt K mg "plus" "plus" s_plus ["one", "other"] f fd) {a_part : Addr} {d_part : FuncData} (D_part : DefAt K mg "part" "part" s_part ["top", "bottom"] a_part d_part) (G_part : FnOk P w K mg base CX0 2 a_part d_part ["top", "bottom"] (LSp S_part)) :
    FnOk P w K mg base CX0 3 f fd ["one", "other"] (LSp S_plus) :=
  j_def (N := N_plus) F.fn sc_plus (fun cdv A outer s H E hr => (jb_one (js_ret (j_fn D_part G_part (hr.mono (by decide)) (j_cons (j_op x_add (j_op x_mul (j_ix (j_name vd_16 vc_16 (Or.inl vk_plus_one)) j_int) (j_ix (j_name vd_13 vc_13 (Or.inl vk_plus_other)) j_int)) (j_op x_mul (j_ix (j_name vd_13 vc_13 (Or.inl vk_plus_other)) j_int) (j_ix (j_name vd_16 vc_16 (Or.inl vk_plus_one)) j_int))) (j_cons (j_op x_mul (j_ix (j_name vd_16 vc_16 (Or.inl vk_plus_one)) j_int) (j_ix (j_name vd_13 vc_13 (Or.inl vk_plus_other)) j_int)) j_nil)) vd_55 vk_plus_part)))) sp_plus
abbrev s_minus : Stmt := top 22
theorem vk_minus_one : (defScope s_minus).names.lookup ("one" : Str) = some .local := by decide +kernel
theorem vk_minus_other : (defScope s_minus).names.lookup ("other" : Str) = some .local := by decide +kernel
theorem vk_minus_part : (defScope s_minus).names.lookup ("part" : Str) = some .globalImplicit := by decide +kernel
theorem sc_minus : FnScope N_minus ["one", "other"] (defScope s_minus) := ⟨rfl, rfl, rfl, by decide +kernel, rfl, by decide +kernel, by decide +kernel⟩
theorem ok_minus {f : Addr} {fd : FuncData} (B : Bl mg) (F : DefAt K mg "minus" "minus" s_minus ["one", "other"] f fd) {a_part : Addr} {d_part : FuncData} (D_part : DefAt K mg "part" "part" s_part ["top", "bottom"] a_part d_part) (G_part : FnOk P w K mg base CX0 2 a_part d_part ["top", "bottom"] (LSp S_part)) :
    FnOk P w K mg base CX0 3 f fd ["one", "other"] (LSp S_minus) :=
  j_def (N := N_minus) F.fn sc_minus (fun cdv A outer s H E hr => (jb_one (js_ret (j_fn D_part G_part (hr.mono (by decide)) (j_cons (j_op x_sub (j_op x_mul (j_ix (j_name vd_16 vc_16 (Or.inl vk_minus_one)) j_int) (j_ix (j_name vd_13 vc_13 (Or.inl vk_minus_other)) j_int)) (j_op x_mul (j_ix (j_name vd_13 vc_13 (Or.inl vk_minus_other)) j_int) (j_ix (j_name vd_16 vc_16 (Or.inl vk_minus_one)) j_int))) (j_cons (j_op x_mul (j_ix (j_name vd_16 vc_16 (Or.inl vk_minus_one)) j_int) (j_ix (j_name vd_13 vc_13 (Or.inl vk_minus_other)) j_int)) j_nil)) vd_55 vk_minus_part)))) sp_minus
abbrev s_times : Stmt := top 23
theorem vk_times_one : (defScope s_times).names.lookup ("one" : Str) = some .local := by decide +kernel
theorem vk_times_other : (defScope s_times).names.lookup ("other" : Str) = some .local := by decide +kernel
theorem vk_times_part : (defScope s_times).names.lookup ("part" : Str) = some .globalImplicit := by decide +kernel
theorem sc_times : FnScope N_times ["one", "other"] (defScope s_times) := ⟨rfl, rfl, rfl, by decide +kernel, rfl, by decide +kernel, by decide +kernel⟩
theorem ok_times {f : Addr} {fd : FuncData} (B : Bl mg) (F : DefAt K mg "times" "times" s_times ["one", "other"] f fd) {a_part : Addr} {d_part : FuncData} (D_part : DefAt K mg "part" "part" s_part ["top", "bottom"] a_part d_part) (G_part : FnOk P w K mg base CX0 2 a_part d_part ["top", "bottom"] (LSp S_part)) :
    FnOk P w K mg base CX0 3 f fd ["one", "other"] (LSp S_times) :=
  j_def (N := N_times) F.fn sc_times (fun cdv A outer s H E hr => (jb_one (js_ret (j_fn D_part G_part (hr.mono (by decide)) (j_cons (j_op x_mul (j_ix (j_name vd_16 vc_16 (Or.inl vk_times_one)) j_int) (j_ix (j_name vd_13 vc_13 (Or.inl vk_times_other)) j_int)) (j_cons (j_op x_mul (j_ix (j_name vd_16 vc_16 (Or.inl vk_times_one)) j_int) (j_ix (j_name vd_13 vc_13 (Or.inl vk_times_other)) j_int)) j_nil)) vd_55 vk_times_part)))) sp_times
abbrev s_over : Stmt := top 24
theorem vk_over_one : (defScope s_over).names.lookup ("one" : Str) = some .local := by decide +kernel
theorem vk_over_other : (defScope s_over).names.lookup ("other" : Str) = some .local := by decide +kernel
theorem vk_over_part : (defScope s_over).names.lookup ("part" : Str) = some .globalImplicit := by decide +kernel
theorem sc_over : FnScope N_over ["one", "other"] (defScope s_over) := ⟨rfl, rfl, rfl, by decide +kernel, rfl, by decide +kernel, by decide +kernel⟩
theorem ok_over {f : Addr} {fd : FuncData} (B : Bl mg) (F : DefAt K mg "over" "over" s_over ["one", "other"] f fd) {a_part : Addr} {d_part : FuncData} (D_part : DefAt K mg "part" "part" s_part ["top", "bottom"] a_part d_part) (G_part : FnOk P w K mg base CX0 2 a_part d_part ["top", "bottom"] (LSp S_part)) :
    FnOk P w K mg base CX0 3 f fd ["one", "other"] (LSp S_over) :=
  j_def (N := N_over) F.fn sc_over (fun cdv A outer s H E hr => (jb_one (js_ret (j_fn D_part G_part (hr.mono (by decide)) (j_cons (j_op x_mul (j_ix (j_name vd_16 vc_16 (Or.inl vk_over_one)) j_int) (j_ix (j_name vd_13 vc_13 (Or.inl vk_over_other)) j_int)) (j_cons (j_op x_mul (j_ix (j_name vd_16 vc_16 (Or.inl vk_over_one)) j_int) (j_ix (j_name vd_13 vc_13 (Or.inl vk_over_other)) j_int)) j_nil)) vd_55 vk_over_part)))) sp_over
abbrev s_before : Stmt := top 25
theorem vk_before_one : (defScope s_before).names.lookup ("one" : Str) = some .local := by decide +kernel
theorem vk_before_other : (defScope s_before).names.lookup ("other" : Str) = some .local := by decide +kernel
theorem sc_before : FnScope N_before ["one", "other"] (defScope s_before) := ⟨rfl, rfl, rfl, by decide +kernel, rfl, by decide +kernel, by decide +kernel⟩
theorem ok_before {f : Addr} {fd : FuncData} (B : Bl mg) (F : DefAt K mg "before" "before" s_before ["one", "other"] f fd) :
    FnOk P w K mg base CX0 1 f fd ["one", "other"] (LSp S_before) :=
  j_def (N := N_before) F.fn sc_before (fun cdv A outer s H E hr => (jb_one (js_ret (j_cmp x_lt (nomark _) (j_op x_mul (j_ix (j_name vd_16 vc_16 (Or.inl vk_before_one)) j_int) (j_ix (j_name vd_13 vc_13 (Or.inl vk_before_other)) j_int)) (j_op x_mul (j_ix (j_name vd_13 vc_13 (Or.inl vk_before_other)) j_int) (j_ix (j_name vd_16 vc_16 (Or.inl vk_before_one)) j_int)))))) sp_before
abbrev s_floor_of : Stmt := top 26
theorem vk_floor_of_one : (defScope s_floor_of).names.lookup ("one" : Str) = some .local := by decide +kernel
theorem sc_floor_of : FnScope N_floor_of ["one"] (defScope s_floor_of) := ⟨rfl, rfl, rfl, by decide +kernel, rfl, by decide +kernel, by decide +kernel⟩
theorem ok_floor_of {f : Addr} {fd : FuncData} (B : Bl mg) (F : DefAt K mg "floor_of" "floor_of" s_floor_of ["one"] f fd) :
    FnOk P w K mg base CX0 1 f fd ["one"] (LSp S_floor_of) :=
  j_def (N := N_floor_of) F.fn sc_floor_of (fun cdv A outer s H E hr => (jb_one (js_ret (j_op x_fdiv (j_ix (j_name vd_16 vc_16 (Or.inl vk_floor_of_one)) j_int) (j_ix (j_name vd_16 vc_16 (Or.inl vk_floor_of_one)) j_int))))) sp_floor_of
abbrev s_whole : Stmt := top 27
theorem vk_whole_n : (defScope s_whole).names.lookup ("n" : Str) = some .local := by decide +kernel
theorem sc_whole : FnScope N_whole ["n"] (defScope s_whole) := ⟨rfl, rfl, rfl, by decide +kernel, rfl, by decide +kernel, by decide +kernel⟩
theorem ok_whole {f : Addr} {fd : FuncData} (B : Bl mg) (F : DefAt K mg "whole" "whole" s_whole ["n"] f fd) :
    FnOk P w K mg base CX0 1 f fd ["n"] (LSp S_whole) :=
  j_def (N := N_whole) F.fn sc_whole (fun cdv A outer s H E hr => (jb_one (js_ret (j_tup (j_cons (j_name vd_29 vc_29 (Or.inl vk_whole_n)) (j_cons j_int j_nil)))))) sp_whole
abbrev s_law_box : Stmt := top 29
theorem vk_law_box_law_cell : (defScope s_law_box).names.lookup ("_law_cell" : Str) = some .local := by decide +kernel
theorem vk_law_box_law_k : (defScope s_law_box).names.lookup ("_law_k" : Str) = some .local := by decide +kernel
theorem vk_law_box_law_script : (defScope s_law_box).names.lookup ("_law_script" : Str) = some .local := by decide +kernel
theorem vk_law_box_abs : (defScope s_law_box).names.lookup ("abs" : Str) = some .globalImplicit := by decide +kernel
theorem vk_law_box_int : (defScope s_law_box).names.lookup ("int" : Str) = some .globalImplicit := by decide +kernel
theorem vk_law_box_len : (defScope s_law_box).names.lookup ("len" : Str) = some .globalImplicit := by decide +kernel
theorem sc_law_box : FnScope N_law_box ["_law_script", "_law_k"] (defScope s_law_box) := ⟨rfl, rfl, rfl, by decide +kernel, rfl, by decide +kernel, by decide +kernel⟩
theorem ok_law_box {f : Addr} {fd : FuncData} (B : Bl mg) (F : DefAt K mg "_law_box" "_law_box" s_law_box ["_law_script", "_law_k"] f fd) :
    FnOk P w K mg base CX0 1 f fd ["_law_script", "_law_k"] (LSp S_law_box) :=
  j_def (N := N_law_box) F.fn sc_law_box (fun cdv A outer s H E hr => (jb_cons (js_set sc_law_box.nd (Or.inl vk_law_box_law_cell) j_int)
    (jb_cons (js_if (j_tcmp x_lt (nomark _) (j_name vd_56 vc_56 (Or.inl vk_law_box_law_k)) (j_cb x_len (j_cons (j_name vd_57 vc_57 (Or.inl vk_law_box_law_script)) j_nil) B.b_len rfl vn_len vd_7 vk_law_box_len)) (jb_one (js_set sc_law_box.nd (Or.inl vk_law_box_law_cell) (j_ix (j_name vd_57 vc_57 (Or.inl vk_law_box_law_script)) (j_name vd_56 vc_56 (Or.inl vk_law_box_law_k))))) jb_nil)
    (jb_one (js_ret (j_new (j_cons (j_op x_mul (j_name vd_58 vc_58 (Or.inl vk_law_box_law_cell)) (j_ct x_int (j_cons (j_cmp x_ge (nomark _) (j_name vd_58 vc_58 (Or.inl vk_law_box_law_cell)) (j_op x_pow j_int j_int)) j_nil) B.b_int rfl vn_int vd_0 vk_law_box_int)) (j_cons (j_cb x_abs (j_cons (j_name vd_58 vc_58 (Or.inl vk_law_box_law_cell)) j_nil) B.b_abs rfl vn_abs vd_47 vk_law_box_abs) (j_cons (j_op x_mul j_int (j_name vd_56 vc_56 (Or.inl vk_law_box_law_k))) j_nil))))))))) sp_law_box
abbrev s_law_take : Stmt := top 30
theorem vk_law_take_law_box_here : (defScope s_law_take).names.lookup ("_law_box_here" : Str) = some .local := by decide +kernel
theorem vk_law_take_law_digit : (defScope s_law_take).names.lookup ("_law_digit" : Str) = some .local := by decide +kernel
theorem vk_law_take_law_m : (defScope s_law_take).names.lookup ("_law_m" : Str) = some .local := by decide +kernel
theorem vk_law_take_law_many : (defScope s_law_take).names.lookup ("_law_many" : Str) = some .local := by decide +kernel
theorem sc_law_take : FnScope N_law_take ["_law_box_here", "_law_many"] (defScope s_law_take) := ⟨rfl, rfl, rfl, by decide +kernel, rfl, by decide +kernel, by decide +kernel⟩
theorem ok_law_take {f : Addr} {fd : FuncData} (B : Bl mg) (F : DefAt K mg "_law_take" "_law_take" s_law_take ["_law_box_here", "_law_many"] f fd) :
    FnOk P w K mg base CX0 1 f fd ["_law_box_here", "_law_many"] (LSp S_law_take) :=
  j_def (N := N_law_take) F.fn sc_law_take (fun cdv A outer s H E hr => (jb_cons (js_if (j_tcmp x_gt (nomark _) (j_ix (j_name vd_59 vc_59 (Or.inl vk_law_take_law_box_here)) j_int) j_int) (jb_cons (js_set sc_law_take.nd (Or.inl vk_law_take_law_digit) (j_op x_mod (j_ix (j_name vd_59 vc_59 (Or.inl vk_law_take_law_box_here)) j_int) (j_name vd_60 vc_60 (Or.inl vk_law_take_law_many))))
    (jb_cons (js_setIx (j_op x_fdiv (j_ix (j_name vd_59 vc_59 (Or.inl vk_law_take_law_box_here)) j_int) (j_name vd_60 vc_60 (Or.inl vk_law_take_law_many))) (j_name vd_59 vc_59 (Or.inl vk_law_take_law_box_here)) j_int)
    (jb_one (js_ret (j_name vd_61 vc_61 (Or.inl vk_law_take_law_digit)))))) jb_nil)
    (jb_cons (js_setIx (j_op x_add (j_ix (j_name vd_59 vc_59 (Or.inl vk_law_take_law_box_here)) j_int) j_int) (j_name vd_59 vc_59 (Or.inl vk_law_take_law_box_here)) j_int)
    (jb_cons (js_set sc_law_take.nd (Or.inl vk_law_take_law_m) (j_op x_add (j_op x_mod (j_ix (j_name vd_59 vc_59 (Or.inl vk_law_take_law_box_here)) j_int) j_int) j_int))
    (jb_cons (js_set sc_law_take.nd (Or.inl vk_law_take_law_m) (j_op x_mod (j_op x_mul (j_name vd_62 vc_62 (Or.inl vk_law_take_law_m)) (j_op x_add j_int (j_op x_mul (j_ix (j_name vd_59 vc_59 (Or.inl vk_law_take_law_box_here)) j_int) (j_ix (j_name vd_59 vc_59 (Or.inl vk_law_take_law_box_here)) j_int)))) j_int))
    (jb_cons (js_set sc_law_take.nd (Or.inl vk_law_take_law_m) (j_op x_mod (j_op x_mul (j_name vd_62 vc_62 (Or.inl vk_law_take_law_m)) (j_op x_add (j_op x_add (j_op x_mod (j_name vd_62 vc_62 (Or.inl vk_law_take_law_m)) j_int) (j_op x_mul (j_ix (j_name vd_59 vc_59 (Or.inl vk_law_take_law_box_here)) j_int) j_int)) j_int)) j_int))
    (jb_one (js_ret (j_op x_mod (j_op x_add (j_op x_fdiv (j_op x_mul (j_name vd_62 vc_62 (Or.inl vk_law_take_law_m)) (j_name vd_62 vc_62 (Or.inl vk_law_take_law_m))) j_int) (j_op x_fdiv (j_name vd_62 vc_62 (Or.inl vk_law_take_law_m)) j_int)) (j_name vd_60 vc_60 (Or.inl vk_law_take_law_many))))))))))) sp_law_take
abbrev s_law_small : Stmt := top 31
theorem vk_law_small_law_box_here : (defScope s_law_small).names.lookup ("_law_box_here" : Str) = some .local := by decide +kernel
theorem vk_law_small_law_take : (defScope s_law_small).names.lookup ("_law_take" : Str) = some .globalImplicit := by decide +kernel
theorem sc_law_small : FnScope N_law_small ["_law_box_here"] (defScope s_law_small) := ⟨rfl, rfl, rfl, by decide +kernel, rfl, by decide +kernel, by decide +kernel⟩
theorem ok_law_small {f : Addr} {fd : FuncData} (B : Bl mg) (F : DefAt K mg "_law_small" "_law_small" s_law_small ["_law_box_here"] f fd) {a_law_take : Addr} {d_law_take : FuncData} (D_law_take : DefAt K mg "_law_take" "_law_take" s_law_take ["_law_box_here", "_law_many"] a_law_take d_law_take) (G_law_take : FnOk P w K mg base CX0 1 a_law_take d_law_take ["_law_box_here", "_law_many"] (LSp S_law_take)) :
    FnOk P w K mg base CX0 2 f fd ["_law_box_here"] (LSp S_law_small) :=
  j_def (N := N_law_small) F.fn sc_law_small (fun cdv A outer s H E hr => (jb_one (js_ret (j_ix (j_lst (j_cons (j_op x_sub (j_fn D_law_take G_law_take (hr.mono (by decide)) (j_cons (j_name vd_59 vc_59 (Or.inl vk_law_small_law_box_here)) (j_cons j_int j_nil)) vd_63 vk_law_small_law_take) j_int) (j_cons (j_op x_sub (j_fn D_law_take G_law_take (hr.mono (by decide)) (j_cons (j_name vd_59 vc_59 (Or.inl vk_law_small_law_box_here)) (j_cons j_int j_nil)) vd_63 vk_law_small_law_take) j_int) (j_cons (j_op x_sub (j_fn D_law_take G_law_take (hr.mono (by decide)) (j_cons (j_name vd_59 vc_59 (Or.inl vk_law_small_law_box_here)) (j_cons j_int j_nil)) vd_63 vk_law_small_law_take) j_int) (j_cons j_int j_nil))))) (j_fn D_law_take G_law_take (hr.mono (by decide)) (j_cons (j_name vd_59 vc_59 (Or.inl vk_law_small_law_box_here)) (j_cons j_int j_nil)) vd_63 vk_law_small_law_take))))) sp_law_small
abbrev s_law_number : Stmt := top 32
theorem vk_law_number_law_box_here : (defScope s_law_number).names.lookup ("_law_box_here" : Str) = some .local := by decide +kernel
theorem vk_law_number_law_kind : (defScope s_law_number).names.lookup ("_law_kind" : Str) = some .local := by decide +kernel
theorem vk_law_number_law_small : (defScope s_law_number).names.lookup ("_law_small" : Str) = some .globalImplicit := by decide +kernel
theorem vk_law_number_law_take : (defScope s_law_number).names.lookup ("_law_take" : Str) = some .globalImplicit := by decide +kernel
theorem sc_law_number : FnScope N_law_number ["_law_box_here"] (defScope s_law_number) := ⟨rfl, rfl, rfl, by decide +kernel, rfl, by decide +kernel, by decide +kernel⟩
theorem ok_law_number {f : Addr} {fd : FuncData} (B : Bl mg) (F : DefAt K mg "_law_number" "_law_number" s_law_number ["_law_box_here"] f fd) {a_law_take : Addr} {d_law_take : FuncData} (D_law_take : DefAt K mg "_law_take" "_law_take" s_law_take ["_law_box_here", "_law_many"] a_law_take d_law_take) (G_law_take : FnOk P w K mg base CX0 1 a_law_take d_law_take ["_law_box_here", "_law_many"] (LSp S_law_take)) {a_law_small : Addr} {d_law_small : FuncData} (D_law_small : DefAt K mg "_law_small" "_law_small" s_law_small ["_law_box_here"] a_law_small d_law_small) (G_law_small : FnOk P w K mg base CX0 2 a_law_small d_law_small ["_law_box_here"] (LSp S_law_small)) :
    FnOk P w K mg base CX0 3 f fd ["_law_box_here"] (LSp S_law_number) :=
  j_def (N := N_law_number) F.fn sc_law_number (fun cdv A outer s H E hr => (jb_cons (js_set sc_law_number.nd (Or.inl vk_law_number_law_kind) (j_fn D_law_take G_law_take (hr.mono (by decide)) (j_cons (j_name vd_59 vc_59 (Or.inl vk_law_number_law_box_here)) (j_cons j_int j_nil)) vd_63 vk_law_number_law_take))
    (jb_cons (js_if (j_tcmp (x_eq hr) (nomark _) (j_name vd_64 vc_64 (Or.inl vk_law_number_law_kind)) j_int) (jb_one (js_ret (j_op x_add (j_op x_sub (j_fn D_law_take G_law_take (hr.mono (by decide)) (j_cons (j_name vd_59 vc_59 (Or.inl vk_law_number_law_box_here)) (j_cons (j_op x_sub (j_op x_mul j_int (j_op x_pow j_int j_int)) j_int) j_nil)) vd_63 vk_law_number_law_take) (j_op x_pow j_int j_int)) j_int))) jb_nil)
    (jb_cons (js_if (j_tcmp (x_eq hr) (nomark _) (j_name vd_64 vc_64 (Or.inl vk_law_number_law_kind)) j_int) (jb_one (js_ret (j_ix (j_lst (j_cons j_int (j_cons (j_neg j_int) (j_cons j_int (j_cons (j_op x_sub (j_op x_pow j_int j_int) j_int) (j_cons (j_op x_sub j_int (j_op x_pow j_int j_int)) j_nil)))))) (j_fn D_law_take G_law_take (hr.mono (by decide)) (j_cons (j_name vd_59 vc_59 (Or.inl vk_law_number_law_box_here)) (j_cons j_int j_nil)) vd_63 vk_law_number_law_take)))) jb_nil)
    (jb_one (js_ret (j_fn D_law_small G_law_small (hr.mono (by decide)) (j_cons (j_name vd_59 vc_59 (Or.inl vk_law_number_law_box_here)) j_nil) vd_65 vk_law_number_law_small))))))) sp_law_number
abbrev s_law_rows : Stmt := top 33
theorem vk_law_rows_law_many : (defScope s_law_rows).names.lookup ("_law_many" : Str) = some .local := by decide +kernel
theorem vk_law_rows_range : (defScope s_law_rows).names.lookup ("range" : Str) = some .globalImplicit := by decide +kernel
theorem vk_law_rows_tuple : (defScope s_law_rows).names.lookup ("tuple" : Str) = some .globalImplicit := by decide +kernel
theorem sc_law_rows : FnScope N_law_rows ["_law_box_here", "_law_many", "_law_wide"] (defScope s_law_rows) := ⟨rfl, rfl, rfl, by decide +kernel, rfl, by decide +kernel, by decide +kernel⟩
theorem ok_law_rows {f : Addr} {fd : FuncData} (B : Bl mg) (F : DefAt K mg "_law_rows" "_law_rows" s_law_rows ["_law_box_here", "_law_many", "_law_wide"] f fd) {a_law_number : Addr} {d_law_number : FuncData} (D_law_number : DefAt K mg "_law_number" "_law_number" s_law_number ["_law_box_here"] a_law_number d_law_number) (G_law_number : FnOk P w K mg base CX0 3 a_law_number d_law_number ["_law_box_here"] (LSp S_law_number)) :
    FnOk P w K mg base CX0 4 f fd ["_law_box_here", "_law_many", "_law_wide"] (LSp S_law_rows) :=
  j_def (N := N_law_rows) F.fn sc_law_rows (fun cdv A outer s H E hr => (jb_one (js_ret (j_ct x_tuple (j_cons (j_comp (Nc := ["_law_k", "_law_wide", "_law_box_here"]) (CompSc.look (defScope s_law_rows) ["_law_box_here", "_law_many", "_law_wide"] (by decide +kernel)) (j_range1 vk_law_rows_range B.b_range (j_cons (j_name vd_60 vc_60 (Or.inl vk_law_rows_law_many)) j_nil)) (fun _ _ _ _ => (j_tg (show (["_law_k", "_law_wide", "_law_box_here"] : List Str).Nodup by decide +kernel) (by first | exact Or.inl rfl | exact Or.inr rfl) (by first | exact .inl rfl | exact .inr rfl))) (fun _ _ _ _ => j_ctrue) (fun _ _ _ _ => (j_ct x_tuple (j_cons (j_comp (Nc := ["_law_j", "_law_box_here"]) (CompSc.lookC (by decide +kernel)) (j_range1 rfl B.b_range (j_cons (j_nameC vd_66 vc_66) j_nil)) (fun _ _ _ _ => (j_tg (show (["_law_j", "_law_box_here"] : List Str).Nodup by decide +kernel) (by first | exact Or.inl rfl | exact Or.inr rfl) (by first | exact .inl rfl | exact .inr rfl))) (fun _ _ _ _ => j_ctrue) (fun _ _ _ _ => (j_fn D_law_number G_law_number (hr.mono (by decide)) (j_cons (j_nameC vd_59 vc_59) j_nil) vd_67 rfl)) fit_name) j_nil) B.b_tuple rfl vn_tuple vd_4 rfl)) fit_name) j_nil) B.b_tuple rfl vn_tuple vd_4 vk_law_rows_tuple)))) sp_law_rows
abbrev s_law_size : Stmt := top 34
theorem vk_law_size_law_box_here : (defScope s_law_size).names.lookup ("_law_box_here" : Str) = some .local := by decide +kernel
theorem vk_law_size_law_take : (defScope s_law_size).names.lookup ("_law_take" : Str) = some .globalImplicit := by decide +kernel
theorem vk_law_size_int : (defScope s_law_size).names.lookup ("int" : Str) = some .globalImplicit := by decide +kernel
theorem sc_law_size : FnScope N_law_size ["_law_box_here"] (defScope s_law_size) := ⟨rfl, rfl, rfl, by decide +kernel, rfl, by decide +kernel, by decide +kernel⟩
theorem ok_law_size {f : Addr} {fd : FuncData} (B : Bl mg) (F : DefAt K mg "_law_size" "_law_size" s_law_size ["_law_box_here"] f fd) {a_law_take : Addr} {d_law_take : FuncData} (D_law_take : DefAt K mg "_law_take" "_law_take" s_law_take ["_law_box_here", "_law_many"] a_law_take d_law_take) (G_law_take : FnOk P w K mg base CX0 1 a_law_take d_law_take ["_law_box_here", "_law_many"] (LSp S_law_take)) :
    FnOk P w K mg base CX0 2 f fd ["_law_box_here"] (LSp S_law_size) :=
  j_def (N := N_law_size) F.fn sc_law_size (fun cdv A outer s H E hr => (jb_one (js_ret (j_op x_add j_int (j_fn D_law_take G_law_take (hr.mono (by decide)) (j_cons (j_name vd_59 vc_59 (Or.inl vk_law_size_law_box_here)) (j_cons (j_ix (j_lst (j_cons j_int (j_cons j_int j_nil))) (j_ct x_int (j_cons (j_cmp (x_eq hr) (nomark _) (j_fn D_law_take G_law_take (hr.mono (by decide)) (j_cons (j_name vd_59 vc_59 (Or.inl vk_law_size_law_box_here)) (j_cons j_int j_nil)) vd_63 vk_law_size_law_take) j_int) j_nil) B.b_int rfl vn_int vd_0 vk_law_size_int)) j_nil)) vd_63 vk_law_size_law_take))))) sp_law_size
abbrev s_law_lowest : Stmt := top 35
theorem vk_law_lowest_law_bottom : (defScope s_law_lowest).names.lookup ("_law_bottom" : Str) = some .local := by decide +kernel
theorem vk_law_lowest_law_one : (defScope s_law_lowest).names.lookup ("_law_one" : Str) = some .local := by decide +kernel
theorem vk_law_lowest_law_other : (defScope s_law_lowest).names.lookup ("_law_other" : Str) = some .local := by decide +kernel
theorem vk_law_lowest_law_sign : (defScope s_law_lowest).names.lookup ("_law_sign" : Str) = some .local := by decide +kernel
theorem vk_law_lowest_law_top : (defScope s_law_lowest).names.lookup ("_law_top" : Str) = some .local := by decide +kernel
theorem vk_law_lowest_abs : (defScope s_law_lowest).names.lookup ("abs" : Str) = some .globalImplicit := by decide +kernel
theorem vk_law_lowest_int : (defScope s_law_lowest).names.lookup ("int" : Str) = some .globalImplicit := by decide +kernel
theorem sc_law_lowest : FnScope N_law_lowest ["_law_top", "_law_bottom"] (defScope s_law_lowest) := ⟨rfl, rfl, rfl, by decide +kernel, rfl, by decide +kernel, by decide +kernel⟩
theorem ok_law_lowest {f : Addr} {fd : FuncData} (B : Bl mg) (F : DefAt K mg "_law_lowest" "_law_lowest" s_law_lowest ["_law_top", "_law_bottom"] f fd) :
    FnOk P w K mg base CX0 1 f fd ["_law_top", "_law_bottom"] (LSp S_law_lowest) :=
  j_def (N := N_law_lowest) F.fn sc_law_lowest (fun cdv A outer s H E hr => (jb_cons (js_par sc_law_lowest.nd (by decide) vk_law_lowest_law_one vk_law_lowest_law_other (j_cons (j_cb x_abs (j_cons (j_name vd_69 vc_69 (Or.inl vk_law_lowest_law_top)) j_nil) B.b_abs rfl vn_abs vd_47 vk_law_lowest_abs) (j_cons (j_cb x_abs (j_cons (j_name vd_68 vc_68 (Or.inl vk_law_lowest_law_bottom)) j_nil) B.b_abs rfl vn_abs vd_47 vk_law_lowest_abs) j_nil)))
    (jb_cons (js_while (j_tcmp x_gt (nomark _) (j_name vd_70 vc_70 (Or.inl vk_law_lowest_law_other)) j_int) (jb_one (js_par sc_law_lowest.nd (by decide) vk_law_lowest_law_one vk_law_lowest_law_other (j_cons (j_name vd_70 vc_70 (Or.inl vk_law_lowest_law_other)) (j_cons (j_op x_mod (j_name vd_71 vc_71 (Or.inl vk_law_lowest_law_one)) (j_name vd_70 vc_70 (Or.inl vk_law_lowest_law_other))) j_nil)))))
    (jb_cons (js_set sc_law_lowest.nd (Or.inl vk_law_lowest_law_sign) (j_op x_sub j_int (j_op x_mul j_int (j_ct x_int (j_cons (j_cmp x_lt (nomark _) (j_name vd_68 vc_68 (Or.inl vk_law_lowest_law_bottom)) j_int) j_nil) B.b_int rfl vn_int vd_0 vk_law_lowest_int))))
    (jb_one (js_ret (j_tup (j_cons (j_op x_fdiv (j_op x_mul (j_name vd_72 vc_72 (Or.inl vk_law_lowest_law_sign)) (j_name vd_69 vc_69 (Or.inl vk_law_lowest_law_top))) (j_name vd_71 vc_71 (Or.inl vk_law_lowest_law_one))) (j_cons (j_op x_fdiv (j_op x_mul (j_name vd_72 vc_72 (Or.inl vk_law_lowest_law_sign)) (j_name vd_68 vc_68 (Or.inl vk_law_lowest_law_bottom))) (j_name vd_71 vc_71 (Or.inl vk_law_lowest_law_one))) j_nil))))))))) sp_law_lowest
abbrev s_law_fraction : Stmt := top 36
theorem vk_law_fraction_law_box_here : (defScope s_law_fraction).names.lookup ("_law_box_here" : Str) = some .local := by decide +kernel
theorem vk_law_fraction_law_lowest : (defScope s_law_fraction).names.lookup ("_law_lowest" : Str) = some .globalImplicit := by decide +kernel
theorem vk_law_fraction_law_number : (defScope s_law_fraction).names.lookup ("_law_number" : Str) = some .globalImplicit := by decide +kernel
theorem vk_law_fraction_abs : (defScope s_law_fraction).names.lookup ("abs" : Str) = some .globalImplicit := by decide +kernel
theorem sc_law_fraction : FnScope N_law_fraction ["_law_box_here"] (defScope s_law_fraction) := ⟨rfl, rfl, rfl, by decide +kernel, rfl, by decide +kernel, by decide +kernel⟩
theorem ok_law_fraction {f : Addr} {fd : FuncData} (B : Bl mg) (F : DefAt K mg "_law_fraction" "_law_fraction" s_law_fraction ["_law_box_here"] f fd) {a_law_number : Addr} {d_law_number : FuncData} (D_law_number : DefAt K mg "_law_number" "_law_number" s_law_number ["_law_box_here"] a_law_number d_law_number) (G_law_number : FnOk P w K mg base CX0 3 a_law_number d_law_number ["_law_box_here"] (LSp S_law_number)) {a_law_lowest : Addr} {d_law_lowest : FuncData} (D_law_lowest : DefAt K mg "_law_lowest" "_law_lowest" s_law_lowest ["_law_top", "_law_bottom"] a_law_lowest d_law_lowest) (G_law_lowest : FnOk P w K mg base CX0 1 a_law_lowest d_law_lowest ["_law_top", "_law_bottom"] (LSp S_law_lowest)) :
    FnOk P w K mg base CX0 4 f fd ["_law_box_here"] (LSp S_law_fraction) :=
  j_def (N := N_law_fraction) F.fn sc_law_fraction (fun cdv A outer s H E hr => (jb_one (js_ret (j_fn D_law_lowest G_law_lowest (hr.mono (by decide)) (j_cons (j_fn D_law_number G_law_number (hr.mono (by decide)) (j_cons (j_name vd_59 vc_59 (Or.inl vk_law_fraction_law_box_here)) j_nil) vd_67 vk_law_fraction_law_number) (j_cons (j_op x_add j_int (j_cb x_abs (j_cons (j_fn D_law_number G_law_number (hr.mono (by decide)) (j_cons (j_name vd_59 vc_59 (Or.inl vk_law_fraction_law_box_here)) j_nil) vd_67 vk_law_fraction_law_number) j_nil) B.b_abs rfl vn_abs vd_47 vk_law_fraction_abs)) j_nil)) vd_73 vk_law_fraction_law_lowest)))) sp_law_fraction
abbrev s_law_turn : Stmt := top 37
theorem vk_law_turn_law_back : (defScope s_law_turn).names.lookup ("_law_back" : Str) = some .local := by decide +kernel
theorem vk_law_turn_law_box_here : (defScope s_law_turn).names.lookup ("_law_box_here" : Str) = some .local := by decide +kernel
theorem vk_law_turn_law_by : (defScope s_law_turn).names.lookup ("_law_by" : Str) = some .cell := by decide +kernel
theorem vk_law_turn_law_i : (defScope s_law_turn).names.lookup ("_law_i" : Str) = some .local := by decide +kernel
theorem vk_law_turn_law_j : (defScope s_law_turn).names.lookup ("_law_j" : Str) = some .local := by decide +kernel
theorem vk_law_turn_law_n : (defScope s_law_turn).names.lookup ("_law_n" : Str) = some .cell := by decide +kernel
theorem vk_law_turn_law_row : (defScope s_law_turn).names.lookup ("_law_row" : Str) = some .local := by decide +kernel
theorem vk_law_turn_law_steps : (defScope s_law_turn).names.lookup ("_law_steps" : Str) = some .local := by decide +kernel
theorem vk_law_turn_law_take : (defScope s_law_turn).names.lookup ("_law_take" : Str) = some .globalImplicit := by decide +kernel
theorem vk_law_turn_law_turn_here : (defScope s_law_turn).names.lookup ("_law_turn_here" : Str) = some .local := by decide +kernel
theorem vk_law_turn_max : (defScope s_law_turn).names.lookup ("max" : Str) = some .globalImplicit := by decide +kernel
theorem vk_law_turn_range : (defScope s_law_turn).names.lookup ("range" : Str) = some .globalImplicit := by decide +kernel
theorem vk_law_turn_tuple : (defScope s_law_turn).names.lookup ("tuple" : Str) = some .globalImplicit := by decide +kernel
theorem vk_law_turn_zip : (defScope s_law_turn).names.lookup ("zip" : Str) = some .globalImplicit := by decide +kernel
theorem sc_law_turn : FnScope N_law_turn ["_law_box_here", "_law_n", "_law_steps"] (defScope s_law_turn) := ⟨rfl, rfl, rfl, by decide +kernel, rfl, by decide +kernel, by decide +kernel⟩
theorem ok_law_turn {f : Addr} {fd : FuncData} (B : Bl mg) (F : DefAt K mg "_law_turn" "_law_turn" s_law_turn ["_law_box_here", "_law_n", "_law_steps"] f fd) {a_law_take : Addr} {d_law_take : FuncData} (D_law_take : DefAt K mg "_law_take" "_law_take" s_law_take ["_law_box_here", "_law_many"] a_law_take d_law_take) (G_law_take : FnOk P w K mg base CX0 1 a_law_take d_law_take ["_law_box_here", "_law_many"] (LSp S_law_take)) :
    FnOk P w K mg base CX0 2 f fd ["_law_box_here", "_law_n", "_law_steps"] (LSp S_law_turn) :=
  j_def (N := N_law_turn) F.fn sc_law_turn (fun cdv A outer s H E hr => (jb_cons (js_setCN sc_law_turn.nd (Or.inl vk_law_turn_law_turn_here) (Nc := ["_law_i", "_law_n"]) (CompSc.look (defScope s_law_turn) ["_law_box_here", "_law_n", "_law_steps", "_law_turn_here", "_law_back", "_law_k", "_law_i", "_law_j", "_law_by", "_law_row"] (by decide +kernel)) (j_range1 vk_law_turn_range B.b_range (j_cons (j_name vd_74 vc_74 (Or.inr (Or.inl vk_law_turn_law_n))) j_nil)) (fun _ _ _ _ => (j_tg (show (["_law_i", "_law_n"] : List Str).Nodup by decide +kernel) (by first | exact Or.inl rfl | exact Or.inr rfl) (by first | exact .inl rfl | exact .inr rfl))) (fun _ _ _ _ => j_ctrue) (fun _ _ _ _ => (j_comp (Nc := ["_law_j", "_law_i"]) (CompSc.lookC (by decide +kernel)) (j_range1 rfl B.b_range (j_cons (j_nameC vd_74 vc_74) j_nil)) (fun _ _ _ _ => (j_tg (show (["_law_j", "_law_i"] : List Str).Nodup by decide +kernel) (by first | exact Or.inl rfl | exact Or.inr rfl) (by first | exact .inl rfl | exact .inr rfl))) (fun _ _ _ _ => j_ctrue) (fun _ _ _ _ => (j_ct x_int (j_cons (j_cmp (x_eq hr) (nomark _) (j_nameC vd_75 vc_75) (j_nameC vd_76 vc_76)) j_nil) B.b_int rfl vn_int vd_0 rfl)) fit_name)) fit_name)
    (jb_cons (js_setC sc_law_turn.nd (Or.inl vk_law_turn_law_back) (Nc := ["_law_i", "_law_n"]) (CompSc.look (defScope s_law_turn) ["_law_box_here", "_law_n", "_law_steps", "_law_turn_here", "_law_back", "_law_k", "_law_i", "_law_j", "_law_by", "_law_row"] (by decide +kernel)) (j_range1 vk_law_turn_range B.b_range (j_cons (j_name vd_74 vc_74 (Or.inr (Or.inl vk_law_turn_law_n))) j_nil)) (fun _ _ _ _ => (j_tg (show (["_law_i", "_law_n"] : List Str).Nodup by decide +kernel) (by first | exact Or.inl rfl | exact Or.inr rfl) (by first | exact .inl rfl | exact .inr rfl))) (fun _ _ _ _ => j_ctrue) (fun _ _ _ _ => (j_compN (Nc := ["_law_j", "_law_i"]) (CompSc.lookC (by decide +kernel)) (j_range1 rfl B.b_range (j_cons (j_nameC vd_74 vc_74) j_nil)) (fun _ _ _ _ => (j_tg (show (["_law_j", "_law_i"] : List Str).Nodup by decide +kernel) (by first | exact Or.inl rfl | exact Or.inr rfl) (by first | exact .inl rfl | exact .inr rfl))) (fun _ _ _ _ => j_ctrue) (fun _ _ _ _ => (j_ct x_int (j_cons (j_cmp (x_eq hr) (nomark _) (j_nameC vd_75 vc_75) (j_nameC vd_76 vc_76)) j_nil) B.b_int rfl vn_int vd_0 rfl)) fit_name)) fit_name)
    (jb_cons (js_for (j_range1 vk_law_turn_range B.b_range (j_cons (j_name vd_77 vc_77 (Or.inl vk_law_turn_law_steps)) j_nil)) (j_tg sc_law_turn.nd (by first | exact Or.inl rfl | exact Or.inr rfl) (by first | exact .inl rfl | exact .inr rfl)) (jb_cons (js_set sc_law_turn.nd (Or.inl vk_law_turn_law_i) (j_fn D_law_take G_law_take (hr.mono (by decide)) (j_cons (j_name vd_59 vc_59 (Or.inl vk_law_turn_law_box_here)) (j_cons (j_name vd_74 vc_74 (Or.inr (Or.inl vk_law_turn_law_n))) j_nil)) vd_63 vk_law_turn_law_take))
    (jb_cons (js_set sc_law_turn.nd (Or.inl vk_law_turn_law_j) (j_op x_mod (j_op x_add (j_op x_add (j_name vd_75 vc_75 (Or.inl vk_law_turn_law_i)) j_int) (j_fn D_law_take G_law_take (hr.mono (by decide)) (j_cons (j_name vd_59 vc_59 (Or.inl vk_law_turn_law_box_here)) (j_cons (j_cb (x_max rfl) (j_cons j_int (j_cons (j_op x_sub (j_name vd_74 vc_74 (Or.inr (Or.inl vk_law_turn_law_n))) j_int) j_nil)) B.b_max rfl vn_max vd_78 vk_law_turn_max) j_nil)) vd_63 vk_law_turn_law_take)) (j_name vd_74 vc_74 (Or.inr (Or.inl vk_law_turn_law_n)))))
    (jb_cons (js_set sc_law_turn.nd (Or.inr vk_law_turn_law_by) (j_op x_sub (j_fn D_law_take G_law_take (hr.mono (by decide)) (j_cons (j_name vd_59 vc_59 (Or.inl vk_law_turn_law_box_here)) (j_cons j_int j_nil)) vd_63 vk_law_turn_law_take) j_int))
    (jb_cons (js_if (j_wpt (j_wor (j_tcmp (x_eq hr) (nomark _) (j_name vd_75 vc_75 (Or.inl vk_law_turn_law_i)) (j_name vd_76 vc_76 (Or.inl vk_law_turn_law_j))) (j_wor1 (j_tcmp (x_eq hr) (nomark _) (j_name vd_79 vc_79 (Or.inr (Or.inl vk_law_turn_law_by))) j_int)))) (jb_cons (js_setIxC (j_comp (Nc := ["_law_one"]) (CompSc.look (defScope s_law_turn) ["_law_box_here", "_law_n", "_law_steps", "_law_turn_here", "_law_back", "_law_k", "_law_i", "_law_j", "_law_by", "_law_row"] (by decide +kernel)) (j_seq (j_ix (j_name vd_80 vc_80 (Or.inl vk_law_turn_law_turn_here)) (j_name vd_75 vc_75 (Or.inl vk_law_turn_law_i)))) (fun _ _ _ _ => (j_tg (show (["_law_one"] : List Str).Nodup by decide +kernel) (by first | exact Or.inl rfl | exact Or.inr rfl) (by first | exact .inl rfl | exact .inr rfl))) (fun _ _ _ _ => j_ctrue) (fun _ _ _ _ => (j_neg (j_nameC vd_71 vc_71))) fit_name) (j_name vd_80 vc_80 (Or.inl vk_law_turn_law_turn_here)) (j_name vd_75 vc_75 (Or.inl vk_law_turn_law_i)))
    (jb_one (js_for (j_seq (j_name vd_81 vc_81 (Or.inl vk_law_turn_law_back))) (j_tg sc_law_turn.nd (by first | exact Or.inl rfl | exact Or.inr rfl) (by first | exact .inl rfl | exact .inr rfl)) (jb_one (js_setIx (j_neg (j_ix (j_name vd_82 vc_82 (Or.inl vk_law_turn_law_row)) (j_name vd_75 vc_75 (Or.inl vk_law_turn_law_i)))) (j_name vd_82 vc_82 (Or.inl vk_law_turn_law_row)) (j_name vd_75 vc_75 (Or.inl vk_law_turn_law_i))))))) (jb_cons (js_setIxC (j_comp (Nc := ["_law_one", "_law_other", "_law_by"]) (CompSc.look (defScope s_law_turn) ["_law_box_here", "_law_n", "_law_steps", "_law_turn_here", "_law_back", "_law_k", "_law_i", "_law_j", "_law_by", "_law_row"] (by decide +kernel)) (j_zip vk_law_turn_zip B.b_zip (j_cons (j_ix (j_name vd_80 vc_80 (Or.inl vk_law_turn_law_turn_here)) (j_name vd_76 vc_76 (Or.inl vk_law_turn_law_j))) (j_cons (j_ix (j_name vd_80 vc_80 (Or.inl vk_law_turn_law_turn_here)) (j_name vd_75 vc_75 (Or.inl vk_law_turn_law_i))) j_nil))) (fun _ _ _ _ => (j_tg2 rfl (show (["_law_one", "_law_other", "_law_by"] : List Str).Nodup by decide +kernel) (by first | exact Or.inl rfl | exact Or.inr rfl) (by first | exact .inl rfl | exact .inr rfl) (by first | exact Or.inl rfl | exact Or.inr rfl) (by first | exact .inl rfl | exact .inr rfl))) (fun _ _ _ _ => j_ctrue) (fun _ _ _ _ => (j_op x_add (j_nameC vd_71 vc_71) (j_op x_mul (j_nameC vd_79 vc_79) (j_nameC vd_70 vc_70)))) fit_two) (j_name vd_80 vc_80 (Or.inl vk_law_turn_law_turn_here)) (j_name vd_76 vc_76 (Or.inl vk_law_turn_law_j)))
    (jb_one (js_for (j_seq (j_name vd_81 vc_81 (Or.inl vk_law_turn_law_back))) (j_tg sc_law_turn.nd (by first | exact Or.inl rfl | exact Or.inr rfl) (by first | exact .inl rfl | exact .inr rfl)) (jb_one (js_setIx (j_op x_sub (j_ix (j_name vd_82 vc_82 (Or.inl vk_law_turn_law_row)) (j_name vd_75 vc_75 (Or.inl vk_law_turn_law_i))) (j_op x_mul (j_name vd_79 vc_79 (Or.inr (Or.inl vk_law_turn_law_by))) (j_ix (j_name vd_82 vc_82 (Or.inl vk_law_turn_law_row)) (j_name vd_76 vc_76 (Or.inl vk_law_turn_law_j))))) (j_name vd_82 vc_82 (Or.inl vk_law_turn_law_row)) (j_name vd_75 vc_75 (Or.inl vk_law_turn_law_i))))))))
    (jb_one (js_if (j_tcmp (x_eq hr) (nomark _) (j_fn D_law_take G_law_take (hr.mono (by decide)) (j_cons (j_name vd_59 vc_59 (Or.inl vk_law_turn_law_box_here)) (j_cons j_int j_nil)) vd_63 vk_law_turn_law_take) j_int) (jb_cons (js_swap (j_name vd_80 vc_80 (Or.inl vk_law_turn_law_turn_here)) (j_name vd_75 vc_75 (Or.inl vk_law_turn_law_i)) (j_name vd_80 vc_80 (Or.inl vk_law_turn_law_turn_here)) (j_name vd_76 vc_76 (Or.inl vk_law_turn_law_j)) (j_tup (j_cons (j_ix (j_name vd_80 vc_80 (Or.inl vk_law_turn_law_turn_here)) (j_name vd_76 vc_76 (Or.inl vk_law_turn_law_j))) (j_cons (j_ix (j_name vd_80 vc_80 (Or.inl vk_law_turn_law_turn_here)) (j_name vd_75 vc_75 (Or.inl vk_law_turn_law_i))) j_nil))))
    (jb_one (js_for (j_seq (j_name vd_81 vc_81 (Or.inl vk_law_turn_law_back))) (j_tg sc_law_turn.nd (by first | exact Or.inl rfl | exact Or.inr rfl) (by first | exact .inl rfl | exact .inr rfl)) (jb_one (js_swap (j_name vd_82 vc_82 (Or.inl vk_law_turn_law_row)) (j_name vd_75 vc_75 (Or.inl vk_law_turn_law_i)) (j_name vd_82 vc_82 (Or.inl vk_law_turn_law_row)) (j_name vd_76 vc_76 (Or.inl vk_law_turn_law_j)) (j_tup (j_cons (j_ix (j_name vd_82 vc_82 (Or.inl vk_law_turn_law_row)) (j_name vd_76 vc_76 (Or.inl vk_law_turn_law_j))) (j_cons (j_ix (j_name vd_82 vc_82 (Or.inl vk_law_turn_law_row)) (j_name vd_75 vc_75 (Or.inl vk_law_turn_law_i))) j_nil)))))))) jb_nil)))))))
    (jb_one (js_ret (j_tup (j_cons (j_ct x_tuple (j_cons (j_comp (Nc := ["_law_row"]) (CompSc.look (defScope s_law_turn) ["_law_box_here", "_law_n", "_law_steps", "_law_turn_here", "_law_back", "_law_k", "_law_i", "_law_j", "_law_by", "_law_row"] (by decide +kernel)) (j_seq (j_name vd_80 vc_80 (Or.inl vk_law_turn_law_turn_here))) (fun _ _ _ _ => (j_tg (show (["_law_row"] : List Str).Nodup by decide +kernel) (by first | exact Or.inl rfl | exact Or.inr rfl) (by first | exact .inl rfl | exact .inr rfl))) (fun _ _ _ _ => j_ctrue) (fun _ _ _ _ => (j_ct x_tuple (j_cons (j_nameC vd_82 vc_82) j_nil) B.b_tuple rfl vn_tuple vd_4 rfl)) fit_name) j_nil) B.b_tuple rfl vn_tuple vd_4 vk_law_turn_tuple) (j_cons (j_ct x_tuple (j_cons (j_comp (Nc := ["_law_row"]) (CompSc.look (defScope s_law_turn) ["_law_box_here", "_law_n", "_law_steps", "_law_turn_here", "_law_back", "_law_k", "_law_i", "_law_j", "_law_by", "_law_row"] (by decide +kernel)) (j_seq (j_name vd_81 vc_81 (Or.inl vk_law_turn_law_back))) (fun _ _ _ _ => (j_tg (show (["_law_row"] : List Str).Nodup by decide +kernel) (by first | exact Or.inl rfl | exact Or.inr rfl) (by first | exact .inl rfl | exact .inr rfl))) (fun _ _ _ _ => j_ctrue) (fun _ _ _ _ => (j_ct x_tuple (j_cons (j_nameC vd_82 vc_82) j_nil) B.b_tuple rfl vn_tuple vd_4 rfl)) fit_name) j_nil) B.b_tuple rfl vn_tuple vd_4 vk_law_turn_tuple) j_nil))))))))) sp_law_turn
abbrev s_law_field : Stmt := top 38
theorem vk_law_field_law_low : (defScope s_law_field).names.lookup ("_law_low" : Str) = some .local := by decide +kernel
theorem vk_law_field_law_one : (defScope s_law_field).names.lookup ("_law_one" : Str) = some .local := by decide +kernel
theorem vk_law_field_law_other : (defScope s_law_field).names.lookup ("_law_other" : Str) = some .local := by decide +kernel
theorem vk_law_field_law_third : (defScope s_law_field).names.lookup ("_law_third" : Str) = some .local := by decide +kernel
theorem vk_law_field_before : (defScope s_law_field).names.lookup ("before" : Str) = some .globalImplicit := by decide +kernel
theorem vk_law_field_floor_of : (defScope s_law_field).names.lookup ("floor_of" : Str) = some .globalImplicit := by decide +kernel
theorem vk_law_field_minus : (defScope s_law_field).names.lookup ("minus" : Str) = some .globalImplicit := by decide +kernel
theorem vk_law_field_over : (defScope s_law_field).names.lookup ("over" : Str) = some .globalImplicit := by decide +kernel
theorem vk_law_field_plus : (defScope s_law_field).names.lookup ("plus" : Str) = some .globalImplicit := by decide +kernel
theorem vk_law_field_times : (defScope s_law_field).names.lookup ("times" : Str) = some .globalImplicit := by decide +kernel
theorem vk_law_field_whole : (defScope s_law_field).names.lookup ("whole" : Str) = some .globalImplicit := by decide +kernel
theorem sc_law_field : FnScope N_law_field ["_law_one", "_law_other", "_law_third"] (defScope s_law_field) := ⟨rfl, rfl, rfl, by decide +kernel, rfl, by decide +kernel, by decide +kernel⟩
theorem ok_law_field {f : Addr} {fd : FuncData} (B : Bl mg) (F : DefAt K mg "_law_field" "_law_field" s_law_field ["_law_one", "_law_other", "_law_third"] f fd) {a_plus : Addr} {d_plus : FuncData} (D_plus : DefAt K mg "plus" "plus" s_plus ["one", "other"] a_plus d_plus) (G_plus : FnOk P w K mg base CX0 3 a_plus d_plus ["one", "other"] (LSp S_plus)) {a_times : Addr} {d_times : FuncData} (D_times : DefAt K mg "times" "times" s_times ["one", "other"] a_times d_times) (G_times : FnOk P w K mg base CX0 3 a_times d_times ["one", "other"] (LSp S_times)) {a_minus : Addr} {d_minus : FuncData} (D_minus : DefAt K mg "minus" "minus" s_minus ["one", "other"] a_minus d_minus) (G_minus : FnOk P w K mg base CX0 3 a_minus d_minus ["one", "other"] (LSp S_minus)) {a_over : Addr} {d_over : FuncData} (D_over : DefAt K mg "over" "over" s_over ["one", "other"] a_over d_over) (G_over : FnOk P w K mg base CX0 3 a_over d_over ["one", "other"] (LSp S_over)) {a_floor_of : Addr} {d_floor_of : FuncData} (D_floor_of : DefAt K mg "floor_of" "floor_of" s_floor_of ["one"] a_floor_of d_floor_of) (G_floor_of : FnOk P w K mg base CX0 1 a_floor_of d_floor_of ["one"] (LSp S_floor_of)) {a_whole : Addr} {d_whole : FuncData} (D_whole : DefAt K mg "whole" "whole" s_whole ["n"] a_whole d_whole) (G_whole : FnOk P w K mg base CX0 1 a_whole d_whole ["n"] (LSp S_whole)) {a_before : Addr} {d_before : FuncData} (D_before : DefAt K mg "before" "before" s_before ["one", "other"] a_before d_before) (G_before : FnOk P w K mg base CX0 1 a_before d_before ["one", "other"] (LSp S_before)) :
    FnOk P w K mg base CX0 4 f fd ["_law_one", "_law_other", "_law_third"] (LSp S_law_field) :=
  j_def (N := N_law_field) F.fn sc_law_field (fun cdv A outer s H E hr => (jb_cons (js_if (j_tcmp (x_neD hr) (nomark _) (j_fn D_plus G_plus (hr.mono (by decide)) (j_cons (j_name vd_71 vc_71 (Or.inl vk_law_field_law_one)) (j_cons (j_fn D_plus G_plus (hr.mono (by decide)) (j_cons (j_name vd_70 vc_70 (Or.inl vk_law_field_law_other)) (j_cons (j_name vd_83 vc_83 (Or.inl vk_law_field_law_third)) j_nil)) vd_84 vk_law_field_plus) j_nil)) vd_84 vk_law_field_plus) (j_fn D_plus G_plus (hr.mono (by decide)) (j_cons (j_fn D_plus G_plus (hr.mono (by decide)) (j_cons (j_name vd_71 vc_71 (Or.inl vk_law_field_law_one)) (j_cons (j_name vd_70 vc_70 (Or.inl vk_law_field_law_other)) j_nil)) vd_84 vk_law_field_plus) (j_cons (j_name vd_83 vc_83 (Or.inl vk_law_field_law_third)) j_nil)) vd_84 vk_law_field_plus)) (jb_one (js_ret j_bl)) jb_nil)
    (jb_cons (js_if (j_tcmp (x_neD hr) (nomark _) (j_fn D_times G_times (hr.mono (by decide)) (j_cons (j_name vd_71 vc_71 (Or.inl vk_law_field_law_one)) (j_cons (j_fn D_plus G_plus (hr.mono (by decide)) (j_cons (j_name vd_70 vc_70 (Or.inl vk_law_field_law_other)) (j_cons (j_name vd_83 vc_83 (Or.inl vk_law_field_law_third)) j_nil)) vd_84 vk_law_field_plus) j_nil)) vd_17 vk_law_field_times) (j_fn D_plus G_plus (hr.mono (by decide)) (j_cons (j_fn D_times G_times (hr.mono (by decide)) (j_cons (j_name vd_71 vc_71 (Or.inl vk_law_field_law_one)) (j_cons (j_name vd_70 vc_70 (Or.inl vk_law_field_law_other)) j_nil)) vd_17 vk_law_field_times) (j_cons (j_fn D_times G_times (hr.mono (by decide)) (j_cons (j_name vd_71 vc_71 (Or.inl vk_law_field_law_one)) (j_cons (j_name vd_83 vc_83 (Or.inl vk_law_field_law_third)) j_nil)) vd_17 vk_law_field_times) j_nil)) vd_84 vk_law_field_plus)) (jb_one (js_ret j_bl)) jb_nil)
    (jb_cons (js_if (j_wpt (j_wor (j_tcmp (x_neD hr) (nomark _) (j_fn D_minus G_minus (hr.mono (by decide)) (j_cons (j_fn D_plus G_plus (hr.mono (by decide)) (j_cons (j_name vd_71 vc_71 (Or.inl vk_law_field_law_one)) (j_cons (j_name vd_70 vc_70 (Or.inl vk_law_field_law_other)) j_nil)) vd_84 vk_law_field_plus) (j_cons (j_name vd_70 vc_70 (Or.inl vk_law_field_law_other)) j_nil)) vd_85 vk_law_field_minus) (j_name vd_71 vc_71 (Or.inl vk_law_field_law_one))) (j_wor1 (j_tcmp (x_neD hr) (nomark _) (j_fn D_times G_times (hr.mono (by decide)) (j_cons (j_name vd_71 vc_71 (Or.inl vk_law_field_law_one)) (j_cons (j_fn D_times G_times (hr.mono (by decide)) (j_cons (j_name vd_70 vc_70 (Or.inl vk_law_field_law_other)) (j_cons (j_name vd_83 vc_83 (Or.inl vk_law_field_law_third)) j_nil)) vd_17 vk_law_field_times) j_nil)) vd_17 vk_law_field_times) (j_fn D_times G_times (hr.mono (by decide)) (j_cons (j_fn D_times G_times (hr.mono (by decide)) (j_cons (j_name vd_71 vc_71 (Or.inl vk_law_field_law_one)) (j_cons (j_name vd_70 vc_70 (Or.inl vk_law_field_law_other)) j_nil)) vd_17 vk_law_field_times) (j_cons (j_name vd_83 vc_83 (Or.inl vk_law_field_law_third)) j_nil)) vd_17 vk_law_field_times))))) (jb_one (js_ret j_bl)) jb_nil)
    (jb_cons (js_if (j_wpt (j_wand (j_tcmp x_ne (nomark _) (j_ix (j_name vd_70 vc_70 (Or.inl vk_law_field_law_other)) j_int) j_int) (j_wand1 (j_tcmp (x_neD hr) (nomark _) (j_fn D_times G_times (hr.mono (by decide)) (j_cons (j_fn D_over G_over (hr.mono (by decide)) (j_cons (j_name vd_71 vc_71 (Or.inl vk_law_field_law_one)) (j_cons (j_name vd_70 vc_70 (Or.inl vk_law_field_law_other)) j_nil)) vd_86 vk_law_field_over) (j_cons (j_name vd_70 vc_70 (Or.inl vk_law_field_law_other)) j_nil)) vd_17 vk_law_field_times) (j_name vd_71 vc_71 (Or.inl vk_law_field_law_one)))))) (jb_one (js_ret j_bl)) jb_nil)
    (jb_cons (js_set sc_law_field.nd (Or.inl vk_law_field_law_low) (j_fn D_whole G_whole (hr.mono (by decide)) (j_cons (j_fn D_floor_of G_floor_of (hr.mono (by decide)) (j_cons (j_name vd_71 vc_71 (Or.inl vk_law_field_law_one)) j_nil) vd_87 vk_law_field_floor_of) j_nil) vd_88 vk_law_field_whole))
    (jb_one (js_ret (j_and (j_not (j_fn D_before G_before (hr.mono (by decide)) (j_cons (j_name vd_71 vc_71 (Or.inl vk_law_field_law_one)) (j_cons (j_name vd_89 vc_89 (Or.inl vk_law_field_law_low)) j_nil)) vd_90 vk_law_field_before)) (j_one (j_fn D_before G_before (hr.mono (by decide)) (j_cons (j_name vd_71 vc_71 (Or.inl vk_law_field_law_one)) (j_cons (j_fn D_plus G_plus (hr.mono (by decide)) (j_cons (j_name vd_89 vc_89 (Or.inl vk_law_field_law_low)) (j_cons (j_tup (j_cons j_int (j_cons j_int j_nil))) j_nil)) vd_84 vk_law_field_plus) j_nil)) vd_90 vk_law_field_before))))))))))) sp_law_field
abbrev s_law : Stmt := top 39
theorem vk_law_law_back : (defScope s_law).names.lookup ("_law_back" : Str) = some .local := by decide +kernel
theorem vk_law_law_box : (defScope s_law).names.lookup ("_law_box" : Str) = some .globalImplicit := by decide +kernel
theorem vk_law_law_box_here : (defScope s_law).names.lookup ("_law_box_here" : Str) = some .local := by decide +kernel
theorem vk_law_law_field : (defScope s_law).names.lookup ("_law_field" : Str) = some .globalImplicit := by decide +kernel
theorem vk_law_law_found : (defScope s_law).names.lookup ("_law_found" : Str) = some .local := by decide +kernel
theorem vk_law_law_fraction : (defScope s_law).names.lookup ("_law_fraction" : Str) = some .globalImplicit := by decide +kernel
theorem vk_law_law_k : (defScope s_law).names.lookup ("_law_k" : Str) = some .local := by decide +kernel
theorem vk_law_law_ka : (defScope s_law).names.lookup ("_law_ka" : Str) = some .local := by decide +kernel
theorem vk_law_law_kb : (defScope s_law).names.lookup ("_law_kb" : Str) = some .local := by decide +kernel
theorem vk_law_law_n : (defScope s_law).names.lookup ("_law_n" : Str) = some .local := by decide +kernel
theorem vk_law_law_rows : (defScope s_law).names.lookup ("_law_rows" : Str) = some .globalImplicit := by decide +kernel
theorem vk_law_law_script : (defScope s_law).names.lookup ("_law_script" : Str) = some .local := by decide +kernel
theorem vk_law_law_sign : (defScope s_law).names.lookup ("_law_sign" : Str) = some .local := by decide +kernel
theorem vk_law_law_size : (defScope s_law).names.lookup ("_law_size" : Str) = some .globalImplicit := by decide +kernel
theorem vk_law_law_turn : (defScope s_law).names.lookup ("_law_turn" : Str) = some .globalImplicit := by decide +kernel
theorem vk_law_law_turn_here : (defScope s_law).names.lookup ("_law_turn_here" : Str) = some .local := by decide +kernel
theorem vk_law_are_back : (defScope s_law).names.lookup ("are_back" : Str) = some .globalImplicit := by decide +kernel
theorem vk_law_len : (defScope s_law).names.lookup ("len" : Str) = some .globalImplicit := by decide +kernel
theorem vk_law_max : (defScope s_law).names.lookup ("max" : Str) = some .globalImplicit := by decide +kernel
theorem vk_law_measure : (defScope s_law).names.lookup ("measure" : Str) = some .globalImplicit := by decide +kernel
theorem vk_law_min : (defScope s_law).names.lookup ("min" : Str) = some .globalImplicit := by decide +kernel
theorem vk_law_product : (defScope s_law).names.lookup ("product" : Str) = some .globalImplicit := by decide +kernel
theorem vk_law_range : (defScope s_law).names.lookup ("range" : Str) = some .globalImplicit := by decide +kernel
theorem vk_law_turned_over : (defScope s_law).names.lookup ("turned_over" : Str) = some .globalImplicit := by decide +kernel
theorem sc_law : FnScope N_law ["_law_script"] (defScope s_law) := ⟨rfl, rfl, rfl, by decide +kernel, rfl, by decide +kernel, by decide +kernel⟩
theorem ok_law {f : Addr} {fd : FuncData} (B : Bl mg) (F : DefAt K mg "law" "law" s_law ["_law_script"] f fd) {a_law_box : Addr} {d_law_box : FuncData} (D_law_box : DefAt K mg "_law_box" "_law_box" s_law_box ["_law_script", "_law_k"] a_law_box d_law_box) (G_law_box : FnOk P w K mg base CX0 1 a_law_box d_law_box ["_law_script", "_law_k"] (LSp S_law_box)) {a_law_size : Addr} {d_law_size : FuncData} (D_law_size : DefAt K mg "_law_size" "_law_size" s_law_size ["_law_box_here"] a_law_size d_law_size) (G_law_size : FnOk P w K mg base CX0 2 a_law_size d_law_size ["_law_box_here"] (LSp S_law_size)) {a_law_rows : Addr} {d_law_rows : FuncData} (D_law_rows : DefAt K mg "_law_rows" "_law_rows" s_law_rows ["_law_box_here", "_law_many", "_law_wide"] a_law_rows d_law_rows) (G_law_rows : FnOk P w K mg base CX0 4 a_law_rows d_law_rows ["_law_box_here", "_law_many", "_law_wide"] (LSp S_law_rows)) {a_measure : Addr} {d_measure : FuncData} (D_measure : DefAt K mg "measure" "measure" s_measure ["rows"] a_measure d_measure) (G_measure : FnOk P w K mg base CX0 2 a_measure d_measure ["rows"] (LSp S_measure)) {a_product : Addr} {d_product : FuncData} (D_product : DefAt K mg "product" "product" s_product ["one", "other"] a_product d_product) (G_product : FnOk P w K mg base CX0 3 a_product d_product ["one", "other"] (LSp S_product)) {a_turned_over : Addr} {d_turned_over : FuncData} (D_turned_over : DefAt K mg "turned_over" "turned_over" s_turned_over ["rows", "wide"] a_turned_over d_turned_over) (G_turned_over : FnOk P w K mg base CX0 2 a_turned_over d_turned_over ["rows", "wide"] (LSp S_turned_over)) {a_law_turn : Addr} {d_law_turn : FuncData} (D_law_turn : DefAt K mg "_law_turn" "_law_turn" s_law_turn ["_law_box_here", "_law_n", "_law_steps"] a_law_turn d_law_turn) (G_law_turn : FnOk P w K mg base CX0 2 a_law_turn d_law_turn ["_law_box_here", "_law_n", "_law_steps"] (LSp S_law_turn)) {a_are_back : Addr} {d_are_back : FuncData} (D_are_back : DefAt K mg "are_back" "are_back" s_are_back ["turn", "back"] a_are_back d_are_back) (G_are_back : FnOk P w K mg base CX0 5 a_are_back d_are_back ["turn", "back"] (LSp S_are_back)) {a_law_fraction : Addr} {d_law_fraction : FuncData} (D_law_fraction : DefAt K mg "_law_fraction" "_law_fraction" s_law_fraction ["_law_box_here"] a_law_fraction d_law_fraction) (G_law_fraction : FnOk P w K mg base CX0 4 a_law_fraction d_law_fraction ["_law_box_here"] (LSp S_law_fraction)) {a_law_field : Addr} {d_law_field : FuncData} (D_law_field : DefAt K mg "_law_field" "_law_field" s_law_field ["_law_one", "_law_other", "_law_third"] a_law_field d_law_field) (G_law_field : FnOk P w K mg base CX0 4 a_law_field d_law_field ["_law_one", "_law_other", "_law_third"] (LSp S_law_field)) :
    FnOk P w K mg base CX0 6 f fd ["_law_script"] (LSp S_law) :=
  j_def (N := N_law) F.fn sc_law (fun cdv A outer s H E hr => (jb_cons (js_for (j_range1 vk_law_range B.b_range (j_cons (j_cb (x_max rfl) (j_cons j_int (j_cons (j_cb (x_min rfl) (j_cons (j_cb x_len (j_cons (j_name vd_57 vc_57 (Or.inl vk_law_law_script)) j_nil) B.b_len rfl vn_len vd_7 vk_law_len) (j_cons j_int j_nil)) B.b_min rfl vn_min vd_91 vk_law_min) j_nil)) B.b_max rfl vn_max vd_78 vk_law_max) j_nil)) (j_tg sc_law.nd (by first | exact Or.inl rfl | exact Or.inr rfl) (by first | exact .inl rfl | exact .inr rfl)) (jb_cons (js_set sc_law.nd (Or.inl vk_law_law_box_here) (j_fn D_law_box G_law_box (hr.mono (by decide)) (j_cons (j_name vd_57 vc_57 (Or.inl vk_law_law_script)) (j_cons (j_name vd_56 vc_56 (Or.inl vk_law_law_k)) j_nil)) vd_92 vk_law_law_box))
    (jb_cons (js_set sc_law.nd (Or.inl vk_law_law_n) (j_cb (x_min rfl) (j_cons j_int (j_cons (j_fn D_law_size G_law_size (hr.mono (by decide)) (j_cons (j_name vd_59 vc_59 (Or.inl vk_law_law_box_here)) j_nil) vd_93 vk_law_law_size) j_nil)) B.b_min rfl vn_min vd_91 vk_law_min))
    (jb_cons (js_set sc_law.nd (Or.inl vk_law_law_ka) (j_fn D_law_rows G_law_rows (hr.mono (by decide)) (j_cons (j_name vd_59 vc_59 (Or.inl vk_law_law_box_here)) (j_cons (j_name vd_74 vc_74 (Or.inl vk_law_law_n)) (j_cons (j_name vd_74 vc_74 (Or.inl vk_law_law_n)) j_nil))) vd_94 vk_law_law_rows))
    (jb_cons (js_set sc_law.nd (Or.inl vk_law_law_kb) (j_fn D_law_rows G_law_rows (hr.mono (by decide)) (j_cons (j_name vd_59 vc_59 (Or.inl vk_law_law_box_here)) (j_cons (j_name vd_74 vc_74 (Or.inl vk_law_law_n)) (j_cons (j_name vd_74 vc_74 (Or.inl vk_law_law_n)) j_nil))) vd_94 vk_law_law_rows))
    (jb_cons (js_set sc_law.nd (Or.inl vk_law_law_found) (j_fn D_measure G_measure (hr.mono (by decide)) (j_cons (j_name vd_95 vc_95 (Or.inl vk_law_law_ka)) j_nil) vd_96 vk_law_measure))
    (jb_cons (js_if (j_wpt (j_wor (j_tcmp x_ne (nomark _) (j_fn D_measure G_measure (hr.mono (by decide)) (j_cons (j_fn D_product G_product (hr.mono (by decide)) (j_cons (j_name vd_95 vc_95 (Or.inl vk_law_law_ka)) (j_cons (j_name vd_97 vc_97 (Or.inl vk_law_law_kb)) j_nil)) vd_36 vk_law_product) j_nil) vd_96 vk_law_measure) (j_op x_mul (j_name vd_98 vc_98 (Or.inl vk_law_law_found)) (j_fn D_measure G_measure (hr.mono (by decide)) (j_cons (j_name vd_97 vc_97 (Or.inl vk_law_law_kb)) j_nil) vd_96 vk_law_measure))) (j_wor1 (j_tcmp x_ne (nomark _) (j_fn D_measure G_measure (hr.mono (by decide)) (j_cons (j_fn D_turned_over G_turned_over (hr.mono (by decide)) (j_cons (j_name vd_95 vc_95 (Or.inl vk_law_law_ka)) (j_cons (j_name vd_74 vc_74 (Or.inl vk_law_law_n)) j_nil)) vd_99 vk_law_turned_over) j_nil) vd_96 vk_law_measure) (j_name vd_98 vc_98 (Or.inl vk_law_law_found)))))) (jb_one (js_ret j_bl)) jb_nil)
    (jb_cons (js_asg (j_fn D_law_turn G_law_turn (hr.mono (by decide)) (j_cons (j_name vd_59 vc_59 (Or.inl vk_law_law_box_here)) (j_cons (j_name vd_74 vc_74 (Or.inl vk_law_law_n)) (j_cons (j_op x_mul j_int (j_name vd_74 vc_74 (Or.inl vk_law_law_n))) j_nil))) vd_100 vk_law_law_turn) (j_tg2 rfl sc_law.nd (by first | exact Or.inl rfl | exact Or.inr rfl) (by first | exact .inl rfl | exact .inr rfl) (by first | exact Or.inl rfl | exact Or.inr rfl) (by first | exact .inl rfl | exact .inr rfl)))
    (jb_cons (js_set sc_law.nd (Or.inl vk_law_law_sign) (j_fn D_measure G_measure (hr.mono (by decide)) (j_cons (j_name vd_80 vc_80 (Or.inl vk_law_law_turn_here)) j_nil) vd_96 vk_law_measure))
    (jb_cons (js_if (j_wpt (j_wor (j_tcmp x_notin (by rfl) (j_name vd_72 vc_72 (Or.inl vk_law_law_sign)) (j_tup (j_cons j_int (j_cons (j_neg j_int) j_nil)))) (j_wor (j_tcmp x_ne (nomark _) (j_fn D_measure G_measure (hr.mono (by decide)) (j_cons (j_name vd_81 vc_81 (Or.inl vk_law_law_back)) j_nil) vd_96 vk_law_measure) (j_name vd_72 vc_72 (Or.inl vk_law_law_sign))) (j_wor1 (j_tnot (j_tval (j_fn D_are_back G_are_back (hr.mono (by decide)) (j_cons (j_name vd_80 vc_80 (Or.inl vk_law_law_turn_here)) (j_cons (j_name vd_81 vc_81 (Or.inl vk_law_law_back)) j_nil)) vd_101 vk_law_are_back))))))) (jb_one (js_ret j_bl)) jb_nil)
    (jb_cons (js_if (j_wpt (j_wor (j_tcmp x_ne (nomark _) (j_fn D_measure G_measure (hr.mono (by decide)) (j_cons (j_fn D_product G_product (hr.mono (by decide)) (j_cons (j_name vd_80 vc_80 (Or.inl vk_law_law_turn_here)) (j_cons (j_name vd_95 vc_95 (Or.inl vk_law_law_ka)) j_nil)) vd_36 vk_law_product) j_nil) vd_96 vk_law_measure) (j_op x_mul (j_name vd_72 vc_72 (Or.inl vk_law_law_sign)) (j_name vd_98 vc_98 (Or.inl vk_law_law_found)))) (j_wor1 (j_tcmp x_ne (nomark _) (j_fn D_measure G_measure (hr.mono (by decide)) (j_cons (j_fn D_product G_product (hr.mono (by decide)) (j_cons (j_name vd_95 vc_95 (Or.inl vk_law_law_ka)) (j_cons (j_name vd_81 vc_81 (Or.inl vk_law_law_back)) j_nil)) vd_36 vk_law_product) j_nil) vd_96 vk_law_measure) (j_op x_mul (j_name vd_72 vc_72 (Or.inl vk_law_law_sign)) (j_name vd_98 vc_98 (Or.inl vk_law_law_found))))))) (jb_one (js_ret j_bl)) jb_nil)
    (jb_one (js_if (j_tnot (j_tval (j_fn D_law_field G_law_field (hr.mono (by decide)) (j_cons (j_fn D_law_fraction G_law_fraction (hr.mono (by decide)) (j_cons (j_name vd_59 vc_59 (Or.inl vk_law_law_box_here)) j_nil) vd_102 vk_law_law_fraction) (j_cons (j_fn D_law_fraction G_law_fraction (hr.mono (by decide)) (j_cons (j_name vd_59 vc_59 (Or.inl vk_law_law_box_here)) j_nil) vd_102 vk_law_law_fraction) (j_cons (j_fn D_law_fraction G_law_fraction (hr.mono (by decide)) (j_cons (j_name vd_59 vc_59 (Or.inl vk_law_law_box_here)) j_nil) vd_102 vk_law_law_fraction) j_nil))) vd_103 vk_law_law_field))) (jb_one (js_ret j_bl)) jb_nil)))))))))))))
    (jb_one (js_ret j_bl)))) sp_law
end
theorem all_mk {l : PySem.W.OpenLaw} {w : World} {K : PySem.W.Frag} {h : Heap} {mg : Str → Option Value} {fa : Addr} (X : K.In h) (G : h.Ns mainGlobals mg) (hfa : mg "law" = some (.ref fa))
    {od0 an0 : Option Addr} {sl0 : Array (Option Value)} {oc0 kV0 dc0 pm0 cd0 ct0 : Value} {f0 : Addr}
    {od1 an1 : Option Addr} {sl1 : Array (Option Value)} {oc1 kV1 dc1 pm1 cd1 ct1 : Value} {f1 : Addr}
    {od2 an2 : Option Addr} {sl2 : Array (Option Value)} {oc2 kV2 dc2 pm2 cd2 ct2 : Value} {f2 : Addr}
    {od3 an3 : Option Addr} {sl3 : Array (Option Value)} {oc3 kV3 dc3 pm3 cd3 ct3 : Value} {f3 : Addr}
    {od4 an4 : Option Addr} {sl4 : Array (Option Value)} {oc4 kV4 dc4 pm4 cd4 ct4 : Value} {f4 : Addr}
    {od5 an5 : Option Addr} {sl5 : Array (Option Value)} {oc5 kV5 dc5 pm5 cd5 ct5 : Value} {f5 : Addr}
    {od6 an6 : Option Addr} {sl6 : Array (Option Value)} {oc6 kV6 dc6 pm6 cd6 ct6 : Value} {f6 : Addr}
    {od7 an7 : Option Addr} {sl7 : Array (Option Value)} {oc7 kV7 dc7 pm7 cd7 ct7 : Value} {f7 : Addr}
    {od8 an8 : Option Addr} {sl8 : Array (Option Value)} {oc8 kV8 dc8 pm8 cd8 ct8 : Value} {f8 : Addr}
    {od9 an9 : Option Addr} {sl9 : Array (Option Value)} {oc9 kV9 dc9 pm9 cd9 ct9 : Value} {f9 : Addr}
    {od10 an10 : Option Addr} {sl10 : Array (Option Value)} {oc10 kV10 dc10 pm10 cd10 ct10 : Value} {f10 : Addr}
    {od11 an11 : Option Addr} {sl11 : Array (Option Value)} {oc11 kV11 dc11 pm11 cd11 ct11 : Value} {f11 : Addr}
    {od12 an12 : Option Addr} {sl12 : Array (Option Value)} {oc12 kV12 dc12 pm12 cd12 ct12 : Value} {f12 : Addr}
    {od13 an13 : Option Addr} {sl13 : Array (Option Value)} {oc13 kV13 dc13 pm13 cd13 ct13 : Value} {f13 : Addr}
    {od14 an14 : Option Addr} {sl14 : Array (Option Value)} {oc14 kV14 dc14 pm14 cd14 ct14 : Value} {f14 : Addr}
    {od15 an15 : Option Addr} {sl15 : Array (Option Value)} {oc15 kV15 dc15 pm15 cd15 ct15 : Value} {f15 : Addr}
    {od16 an16 : Option Addr} {sl16 : Array (Option Value)} {oc16 kV16 dc16 pm16 cd16 ct16 : Value} {f16 : Addr}
    {od17 an17 : Option Addr} {sl17 : Array (Option Value)} {oc17 kV17 dc17 pm17 cd17 ct17 : Value} {f17 : Addr}
    {od18 an18 : Option Addr} {sl18 : Array (Option Value)} {oc18 kV18 dc18 pm18 cd18 ct18 : Value} {f18 : Addr}
    {od19 an19 : Option Addr} {sl19 : Array (Option Value)} {oc19 kV19 dc19 pm19 cd19 ct19 : Value} {f19 : Addr}
    {od20 an20 : Option Addr} {sl20 : Array (Option Value)} {oc20 kV20 dc20 pm20 cd20 ct20 : Value} {f20 : Addr}
    {od21 an21 : Option Addr} {sl21 : Array (Option Value)} {oc21 kV21 dc21 pm21 cd21 ct21 : Value} {f21 : Addr}
    {od22 an22 : Option Addr} {sl22 : Array (Option Value)} {oc22 kV22 dc22 pm22 cd22 ct22 : Value} {f22 : Addr}
    {od23 an23 : Option Addr} {sl23 : Array (Option Value)} {oc23 kV23 dc23 pm23 cd23 ct23 : Value} {f23 : Addr}
    {od24 an24 : Option Addr} {sl24 : Array (Option Value)} {oc24 kV24 dc24 pm24 cd24 ct24 : Value} {f24 : Addr}
    {od25 an25 : Option Addr} {sl25 : Array (Option Value)} {oc25 kV25 dc25 pm25 cd25 ct25 : Value} {f25 : Addr}
    {od26 an26 : Option Addr} {sl26 : Array (Option Value)} {oc26 kV26 dc26 pm26 cd26 ct26 : Value} {f26 : Addr}
    {od27 an27 : Option Addr} {sl27 : Array (Option Value)} {oc27 kV27 dc27 pm27 cd27 ct27 : Value} {f27 : Addr}
    {od28 an28 : Option Addr} {sl28 : Array (Option Value)} {oc28 kV28 dc28 pm28 cd28 ct28 : Value} {f28 : Addr}
    {od29 an29 : Option Addr} {sl29 : Array (Option Value)} {oc29 kV29 dc29 pm29 cd29 ct29 : Value} {f29 : Addr}
    {od30 an30 : Option Addr} {sl30 : Array (Option Value)} {oc30 kV30 dc30 pm30 cd30 ct30 : Value} {f30 : Addr}
    {od31 an31 : Option Addr} {sl31 : Array (Option Value)} {oc31 kV31 dc31 pm31 cd31 ct31 : Value} {f31 : Addr}
    {od32 an32 : Option Addr} {sl32 : Array (Option Value)} {oc32 kV32 dc32 pm32 cd32 ct32 : Value} {f32 : Addr}
    {od33 an33 : Option Addr} {sl33 : Array (Option Value)} {oc33 kV33 dc33 pm33 cd33 ct33 : Value} {f33 : Addr}
    {od34 an34 : Option Addr} {sl34 : Array (Option Value)} {oc34 kV34 dc34 pm34 cd34 ct34 : Value} {f34 : Addr}
    {od35 an35 : Option Addr} {sl35 : Array (Option Value)} {oc35 kV35 dc35 pm35 cd35 ct35 : Value} {f35 : Addr}
    (a0 : PySem.W.nsIn K mainGlobals "is_number" = some (some (.ref f0))) (l0 : K.lookup f0 = some ⟨oc0, od0, .func (PySem.W.fnOf "is_number" "is_number" (defArgs s_is_number) (defBody s_is_number) (defScope s_is_number) .none kV0 dc0 pm0 an0 cd0 ct0), sl0⟩) (c0 : PySem.W.codeIn K cd0 "is_number" = true) (k0 : PySem.W.keepIn K (.ref f0) = true)
    (a1 : PySem.W.nsIn K mainGlobals "is_listed" = some (some (.ref f1))) (l1 : K.lookup f1 = some ⟨oc1, od1, .func (PySem.W.fnOf "is_listed" "is_listed" (defArgs s_is_listed) (defBody s_is_listed) (defScope s_is_listed) .none kV1 dc1 pm1 an1 cd1 ct1), sl1⟩) (c1 : PySem.W.codeIn K cd1 "is_listed" = true) (k1 : PySem.W.keepIn K (.ref f1) = true)
    (a2 : PySem.W.nsIn K mainGlobals "is_listed_of" = some (some (.ref f2))) (l2 : K.lookup f2 = some ⟨oc2, od2, .func (PySem.W.fnOf "is_listed_of" "is_listed_of" (defArgs s_is_listed_of) (defBody s_is_listed_of) (defScope s_is_listed_of) .none kV2 dc2 pm2 an2 cd2 ct2), sl2⟩) (c2 : PySem.W.codeIn K cd2 "is_listed_of" = true) (k2 : PySem.W.keepIn K (.ref f2) = true)
    (a3 : PySem.W.nsIn K mainGlobals "are_numbers" = some (some (.ref f3))) (l3 : K.lookup f3 = some ⟨oc3, od3, .func (PySem.W.fnOf "are_numbers" "are_numbers" (defArgs s_are_numbers) (defBody s_are_numbers) (defScope s_are_numbers) .none kV3 dc3 pm3 an3 cd3 ct3), sl3⟩) (c3 : PySem.W.codeIn K cd3 "are_numbers" = true) (k3 : PySem.W.keepIn K (.ref f3) = true)
    (a4 : PySem.W.nsIn K mainGlobals "added" = some (some (.ref f4))) (l4 : K.lookup f4 = some ⟨oc4, od4, .func (PySem.W.fnOf "added" "added" (defArgs s_added) (defBody s_added) (defScope s_added) .none kV4 dc4 pm4 an4 cd4 ct4), sl4⟩) (c4 : PySem.W.codeIn K cd4 "added" = true) (k4 : PySem.W.keepIn K (.ref f4) = true)
    (a5 : PySem.W.nsIn K mainGlobals "sum_by" = some (some (.ref f5))) (l5 : K.lookup f5 = some ⟨oc5, od5, .func (PySem.W.fnOf "sum_by" "sum_by" (defArgs s_sum_by) (defBody s_sum_by) (defScope s_sum_by) .none kV5 dc5 pm5 an5 cd5 ct5), sl5⟩) (c5 : PySem.W.codeIn K cd5 "sum_by" = true) (k5 : PySem.W.keepIn K (.ref f5) = true)
    (a6 : PySem.W.nsIn K mainGlobals "product" = some (some (.ref f6))) (l6 : K.lookup f6 = some ⟨oc6, od6, .func (PySem.W.fnOf "product" "product" (defArgs s_product) (defBody s_product) (defScope s_product) .none kV6 dc6 pm6 an6 cd6 ct6), sl6⟩) (c6 : PySem.W.codeIn K cd6 "product" = true) (k6 : PySem.W.keepIn K (.ref f6) = true)
    (a7 : PySem.W.nsIn K mainGlobals "column" = some (some (.ref f7))) (l7 : K.lookup f7 = some ⟨oc7, od7, .func (PySem.W.fnOf "column" "column" (defArgs s_column) (defBody s_column) (defScope s_column) .none kV7 dc7 pm7 an7 cd7 ct7), sl7⟩) (c7 : PySem.W.codeIn K cd7 "column" = true) (k7 : PySem.W.keepIn K (.ref f7) = true)
    (a8 : PySem.W.nsIn K mainGlobals "turned_over" = some (some (.ref f8))) (l8 : K.lookup f8 = some ⟨oc8, od8, .func (PySem.W.fnOf "turned_over" "turned_over" (defArgs s_turned_over) (defBody s_turned_over) (defScope s_turned_over) .none kV8 dc8 pm8 an8 cd8 ct8), sl8⟩) (c8 : PySem.W.codeIn K cd8 "turned_over" = true) (k8 : PySem.W.keepIn K (.ref f8) = true)
    (a9 : PySem.W.nsIn K mainGlobals "unit_row" = some (some (.ref f9))) (l9 : K.lookup f9 = some ⟨oc9, od9, .func (PySem.W.fnOf "unit_row" "unit_row" (defArgs s_unit_row) (defBody s_unit_row) (defScope s_unit_row) .none kV9 dc9 pm9 an9 cd9 ct9), sl9⟩) (c9 : PySem.W.codeIn K cd9 "unit_row" = true) (k9 : PySem.W.keepIn K (.ref f9) = true)
    (a10 : PySem.W.nsIn K mainGlobals "unit_rows" = some (some (.ref f10))) (l10 : K.lookup f10 = some ⟨oc10, od10, .func (PySem.W.fnOf "unit_rows" "unit_rows" (defArgs s_unit_rows) (defBody s_unit_rows) (defScope s_unit_rows) .none kV10 dc10 pm10 an10 cd10 ct10), sl10⟩) (c10 : PySem.W.codeIn K cd10 "unit_rows" = true) (k10 : PySem.W.keepIn K (.ref f10) = true)
    (a11 : PySem.W.nsIn K mainGlobals "is_rows" = some (some (.ref f11))) (l11 : K.lookup f11 = some ⟨oc11, od11, .func (PySem.W.fnOf "is_rows" "is_rows" (defArgs s_is_rows) (defBody s_is_rows) (defScope s_is_rows) .none kV11 dc11 pm11 an11 cd11 ct11), sl11⟩) (c11 : PySem.W.codeIn K cd11 "is_rows" = true) (k11 : PySem.W.keepIn K (.ref f11) = true)
    (a12 : PySem.W.nsIn K mainGlobals "are_back" = some (some (.ref f12))) (l12 : K.lookup f12 = some ⟨oc12, od12, .func (PySem.W.fnOf "are_back" "are_back" (defArgs s_are_back) (defBody s_are_back) (defScope s_are_back) .none kV12 dc12 pm12 an12 cd12 ct12), sl12⟩) (c12 : PySem.W.codeIn K cd12 "are_back" = true) (k12 : PySem.W.keepIn K (.ref f12) = true)
    (a13 : PySem.W.nsIn K mainGlobals "row_to_divide_by" = some (some (.ref f13))) (l13 : K.lookup f13 = some ⟨oc13, od13, .func (PySem.W.fnOf "row_to_divide_by" "row_to_divide_by" (defArgs s_row_to_divide_by) (defBody s_row_to_divide_by) (defScope s_row_to_divide_by) .none kV13 dc13 pm13 an13 cd13 ct13), sl13⟩) (c13 : PySem.W.codeIn K cd13 "row_to_divide_by" = true) (k13 : PySem.W.keepIn K (.ref f13) = true)
    (a14 : PySem.W.nsIn K mainGlobals "row_below" = some (some (.ref f14))) (l14 : K.lookup f14 = some ⟨oc14, od14, .func (PySem.W.fnOf "row_below" "row_below" (defArgs s_row_below) (defBody s_row_below) (defScope s_row_below) .none kV14 dc14 pm14 an14 cd14 ct14), sl14⟩) (c14 : PySem.W.codeIn K cd14 "row_below" = true) (k14 : PySem.W.keepIn K (.ref f14) = true)
    (a15 : PySem.W.nsIn K mainGlobals "measure" = some (some (.ref f15))) (l15 : K.lookup f15 = some ⟨oc15, od15, .func (PySem.W.fnOf "measure" "measure" (defArgs s_measure) (defBody s_measure) (defScope s_measure) .none kV15 dc15 pm15 an15 cd15 ct15), sl15⟩) (c15 : PySem.W.codeIn K cd15 "measure" = true) (k15 : PySem.W.keepIn K (.ref f15) = true)
    (a16 : PySem.W.nsIn K mainGlobals "common" = some (some (.ref f16))) (l16 : K.lookup f16 = some ⟨oc16, od16, .func (PySem.W.fnOf "common" "common" (defArgs s_common) (defBody s_common) (defScope s_common) .none kV16 dc16 pm16 an16 cd16 ct16), sl16⟩) (c16 : PySem.W.codeIn K cd16 "common" = true) (k16 : PySem.W.keepIn K (.ref f16) = true)
    (a17 : PySem.W.nsIn K mainGlobals "part" = some (some (.ref f17))) (l17 : K.lookup f17 = some ⟨oc17, od17, .func (PySem.W.fnOf "part" "part" (defArgs s_part) (defBody s_part) (defScope s_part) .none kV17 dc17 pm17 an17 cd17 ct17), sl17⟩) (c17 : PySem.W.codeIn K cd17 "part" = true) (k17 : PySem.W.keepIn K (.ref f17) = true)
    (a18 : PySem.W.nsIn K mainGlobals "plus" = some (some (.ref f18))) (l18 : K.lookup f18 = some ⟨oc18, od18, .func (PySem.W.fnOf "plus" "plus" (defArgs s_plus) (defBody s_plus) (defScope s_plus) .none kV18 dc18 pm18 an18 cd18 ct18), sl18⟩) (c18 : PySem.W.codeIn K cd18 "plus" = true) (k18 : PySem.W.keepIn K (.ref f18) = true)
    (a19 : PySem.W.nsIn K mainGlobals "minus" = some (some (.ref f19))) (l19 : K.lookup f19 = some ⟨oc19, od19, .func (PySem.W.fnOf "minus" "minus" (defArgs s_minus) (defBody s_minus) (defScope s_minus) .none kV19 dc19 pm19 an19 cd19 ct19), sl19⟩) (c19 : PySem.W.codeIn K cd19 "minus" = true) (k19 : PySem.W.keepIn K (.ref f19) = true)
    (a20 : PySem.W.nsIn K mainGlobals "times" = some (some (.ref f20))) (l20 : K.lookup f20 = some ⟨oc20, od20, .func (PySem.W.fnOf "times" "times" (defArgs s_times) (defBody s_times) (defScope s_times) .none kV20 dc20 pm20 an20 cd20 ct20), sl20⟩) (c20 : PySem.W.codeIn K cd20 "times" = true) (k20 : PySem.W.keepIn K (.ref f20) = true)
    (a21 : PySem.W.nsIn K mainGlobals "over" = some (some (.ref f21))) (l21 : K.lookup f21 = some ⟨oc21, od21, .func (PySem.W.fnOf "over" "over" (defArgs s_over) (defBody s_over) (defScope s_over) .none kV21 dc21 pm21 an21 cd21 ct21), sl21⟩) (c21 : PySem.W.codeIn K cd21 "over" = true) (k21 : PySem.W.keepIn K (.ref f21) = true)
    (a22 : PySem.W.nsIn K mainGlobals "before" = some (some (.ref f22))) (l22 : K.lookup f22 = some ⟨oc22, od22, .func (PySem.W.fnOf "before" "before" (defArgs s_before) (defBody s_before) (defScope s_before) .none kV22 dc22 pm22 an22 cd22 ct22), sl22⟩) (c22 : PySem.W.codeIn K cd22 "before" = true) (k22 : PySem.W.keepIn K (.ref f22) = true)
    (a23 : PySem.W.nsIn K mainGlobals "floor_of" = some (some (.ref f23))) (l23 : K.lookup f23 = some ⟨oc23, od23, .func (PySem.W.fnOf "floor_of" "floor_of" (defArgs s_floor_of) (defBody s_floor_of) (defScope s_floor_of) .none kV23 dc23 pm23 an23 cd23 ct23), sl23⟩) (c23 : PySem.W.codeIn K cd23 "floor_of" = true) (k23 : PySem.W.keepIn K (.ref f23) = true)
    (a24 : PySem.W.nsIn K mainGlobals "whole" = some (some (.ref f24))) (l24 : K.lookup f24 = some ⟨oc24, od24, .func (PySem.W.fnOf "whole" "whole" (defArgs s_whole) (defBody s_whole) (defScope s_whole) .none kV24 dc24 pm24 an24 cd24 ct24), sl24⟩) (c24 : PySem.W.codeIn K cd24 "whole" = true) (k24 : PySem.W.keepIn K (.ref f24) = true)
    (a25 : PySem.W.nsIn K mainGlobals "_law_box" = some (some (.ref f25))) (l25 : K.lookup f25 = some ⟨oc25, od25, .func (PySem.W.fnOf "_law_box" "_law_box" (defArgs s_law_box) (defBody s_law_box) (defScope s_law_box) .none kV25 dc25 pm25 an25 cd25 ct25), sl25⟩) (c25 : PySem.W.codeIn K cd25 "_law_box" = true) (k25 : PySem.W.keepIn K (.ref f25) = true)
    (a26 : PySem.W.nsIn K mainGlobals "_law_take" = some (some (.ref f26))) (l26 : K.lookup f26 = some ⟨oc26, od26, .func (PySem.W.fnOf "_law_take" "_law_take" (defArgs s_law_take) (defBody s_law_take) (defScope s_law_take) .none kV26 dc26 pm26 an26 cd26 ct26), sl26⟩) (c26 : PySem.W.codeIn K cd26 "_law_take" = true) (k26 : PySem.W.keepIn K (.ref f26) = true)
    (a27 : PySem.W.nsIn K mainGlobals "_law_small" = some (some (.ref f27))) (l27 : K.lookup f27 = some ⟨oc27, od27, .func (PySem.W.fnOf "_law_small" "_law_small" (defArgs s_law_small) (defBody s_law_small) (defScope s_law_small) .none kV27 dc27 pm27 an27 cd27 ct27), sl27⟩) (c27 : PySem.W.codeIn K cd27 "_law_small" = true) (k27 : PySem.W.keepIn K (.ref f27) = true)
    (a28 : PySem.W.nsIn K mainGlobals "_law_number" = some (some (.ref f28))) (l28 : K.lookup f28 = some ⟨oc28, od28, .func (PySem.W.fnOf "_law_number" "_law_number" (defArgs s_law_number) (defBody s_law_number) (defScope s_law_number) .none kV28 dc28 pm28 an28 cd28 ct28), sl28⟩) (c28 : PySem.W.codeIn K cd28 "_law_number" = true) (k28 : PySem.W.keepIn K (.ref f28) = true)
    (a29 : PySem.W.nsIn K mainGlobals "_law_rows" = some (some (.ref f29))) (l29 : K.lookup f29 = some ⟨oc29, od29, .func (PySem.W.fnOf "_law_rows" "_law_rows" (defArgs s_law_rows) (defBody s_law_rows) (defScope s_law_rows) .none kV29 dc29 pm29 an29 cd29 ct29), sl29⟩) (c29 : PySem.W.codeIn K cd29 "_law_rows" = true) (k29 : PySem.W.keepIn K (.ref f29) = true)
    (a30 : PySem.W.nsIn K mainGlobals "_law_size" = some (some (.ref f30))) (l30 : K.lookup f30 = some ⟨oc30, od30, .func (PySem.W.fnOf "_law_size" "_law_size" (defArgs s_law_size) (defBody s_law_size) (defScope s_law_size) .none kV30 dc30 pm30 an30 cd30 ct30), sl30⟩) (c30 : PySem.W.codeIn K cd30 "_law_size" = true) (k30 : PySem.W.keepIn K (.ref f30) = true)
    (a31 : PySem.W.nsIn K mainGlobals "_law_lowest" = some (some (.ref f31))) (l31 : K.lookup f31 = some ⟨oc31, od31, .func (PySem.W.fnOf "_law_lowest" "_law_lowest" (defArgs s_law_lowest) (defBody s_law_lowest) (defScope s_law_lowest) .none kV31 dc31 pm31 an31 cd31 ct31), sl31⟩) (c31 : PySem.W.codeIn K cd31 "_law_lowest" = true) (k31 : PySem.W.keepIn K (.ref f31) = true)
    (a32 : PySem.W.nsIn K mainGlobals "_law_fraction" = some (some (.ref f32))) (l32 : K.lookup f32 = some ⟨oc32, od32, .func (PySem.W.fnOf "_law_fraction" "_law_fraction" (defArgs s_law_fraction) (defBody s_law_fraction) (defScope s_law_fraction) .none kV32 dc32 pm32 an32 cd32 ct32), sl32⟩) (c32 : PySem.W.codeIn K cd32 "_law_fraction" = true) (k32 : PySem.W.keepIn K (.ref f32) = true)
    (a33 : PySem.W.nsIn K mainGlobals "_law_turn" = some (some (.ref f33))) (l33 : K.lookup f33 = some ⟨oc33, od33, .func (PySem.W.fnOf "_law_turn" "_law_turn" (defArgs s_law_turn) (defBody s_law_turn) (defScope s_law_turn) .none kV33 dc33 pm33 an33 cd33 ct33), sl33⟩) (c33 : PySem.W.codeIn K cd33 "_law_turn" = true) (k33 : PySem.W.keepIn K (.ref f33) = true)
    (a34 : PySem.W.nsIn K mainGlobals "_law_field" = some (some (.ref f34))) (l34 : K.lookup f34 = some ⟨oc34, od34, .func (PySem.W.fnOf "_law_field" "_law_field" (defArgs s_law_field) (defBody s_law_field) (defScope s_law_field) .none kV34 dc34 pm34 an34 cd34 ct34), sl34⟩) (c34 : PySem.W.codeIn K cd34 "_law_field" = true) (k34 : PySem.W.keepIn K (.ref f34) = true)
    (a35 : PySem.W.nsIn K mainGlobals "law" = some (some (.ref f35))) (l35 : K.lookup f35 = some ⟨oc35, od35, .func (PySem.W.fnOf "law" "law" (defArgs s_law) (defBody s_law) (defScope s_law) .none kV35 dc35 pm35 an35 cd35 ct35), sl35⟩) (c35 : PySem.W.codeIn K cd35 "law" = true) (k35 : PySem.W.keepIn K (.ref f35) = true)
    (z_int : PySem.W.nsIn K mainGlobals "int" = some none)
    (z_isinstance : PySem.W.nsIn K mainGlobals "isinstance" = some none)
    (z_bool : PySem.W.nsIn K mainGlobals "bool" = some none)
    (z_tuple : PySem.W.nsIn K mainGlobals "tuple" = some none)
    (z_list : PySem.W.nsIn K mainGlobals "list" = some none)
    (z_len : PySem.W.nsIn K mainGlobals "len" = some none)
    (z_all : PySem.W.nsIn K mainGlobals "all" = some none)
    (z_zip : PySem.W.nsIn K mainGlobals "zip" = some none)
    (z_range : PySem.W.nsIn K mainGlobals "range" = some none)
    (z_abs : PySem.W.nsIn K mainGlobals "abs" = some none)
    (z_max : PySem.W.nsIn K mainGlobals "max" = some none)
    (z_min : PySem.W.nsIn K mainGlobals "min" = some none)
    (nl : noList K = true) :
    ∃ fd : FuncData, (∀ (s : Shared) (v : Value), BindsTo s fd ⟨[v], []⟩ [("_law_script", v)]) ∧ ∀ base : Heap, K.In base → base.Ns mainGlobals mg → FnOk l.prog w K mg base CX0 6 fa fd ["_law_script"] (lawSp K) := by
  have e := hfa.symm.trans (PySem.W.mg_of X G a35)
  cases e
  have B : Bl mg := ⟨PySem.W.mg_none_of X G z_int, PySem.W.mg_none_of X G z_isinstance, PySem.W.mg_none_of X G z_bool, PySem.W.mg_none_of X G z_tuple, PySem.W.mg_none_of X G z_list, PySem.W.mg_none_of X G z_len, PySem.W.mg_none_of X G z_all, PySem.W.mg_none_of X G z_zip, PySem.W.mg_none_of X G z_range, PySem.W.mg_none_of X G z_abs, PySem.W.mg_none_of X G z_max, PySem.W.mg_none_of X G z_min⟩
  have F0 := fun_mk (st := s_is_number) l0 c0 k0
  have D0 : DefAt K mg "is_number" "is_number" s_is_number ["thing"] f0 _ := ⟨F0, PySem.W.mg_of X G a0, F0.binds (ps := ["thing"]) fun _ _ _ _ _ _ us hl => match us, hl with | [_], _ => rfl⟩
  have F1 := fun_mk (st := s_is_listed) l1 c1 k1
  have D1 : DefAt K mg "is_listed" "is_listed" s_is_listed ["thing"] f1 _ := ⟨F1, PySem.W.mg_of X G a1, F1.binds (ps := ["thing"]) fun _ _ _ _ _ _ us hl => match us, hl with | [_], _ => rfl⟩
  have F2 := fun_mk (st := s_is_listed_of) l2 c2 k2
  have D2 : DefAt K mg "is_listed_of" "is_listed_of" s_is_listed_of ["thing", "many"] f2 _ := ⟨F2, PySem.W.mg_of X G a2, F2.binds (ps := ["thing", "many"]) fun _ _ _ _ _ _ us hl => match us, hl with | [_, _], _ => rfl⟩
  have F3 := fun_mk (st := s_are_numbers) l3 c3 k3
  have D3 : DefAt K mg "are_numbers" "are_numbers" s_are_numbers ["thing", "many"] f3 _ := ⟨F3, PySem.W.mg_of X G a3, F3.binds (ps := ["thing", "many"]) fun _ _ _ _ _ _ us hl => match us, hl with | [_, _], _ => rfl⟩
  have F4 := fun_mk (st := s_added) l4 c4 k4
  have D4 : DefAt K mg "added" "added" s_added ["row", "times", "other"] f4 _ := ⟨F4, PySem.W.mg_of X G a4, F4.binds (ps := ["row", "times", "other"]) fun _ _ _ _ _ _ us hl => match us, hl with | [_, _, _], _ => rfl⟩
  have F5 := fun_mk (st := s_sum_by) l5 c5 k5
  have D5 : DefAt K mg "sum_by" "sum_by" s_sum_by ["weights", "rows", "wide"] f5 _ := ⟨F5, PySem.W.mg_of X G a5, F5.binds (ps := ["weights", "rows", "wide"]) fun _ _ _ _ _ _ us hl => match us, hl with | [_, _, _], _ => rfl⟩
  have F6 := fun_mk (st := s_product) l6 c6 k6
  have D6 : DefAt K mg "product" "product" s_product ["one", "other"] f6 _ := ⟨F6, PySem.W.mg_of X G a6, F6.binds (ps := ["one", "other"]) fun _ _ _ _ _ _ us hl => match us, hl with | [_, _], _ => rfl⟩
  have F7 := fun_mk (st := s_column) l7 c7 k7
  have D7 : DefAt K mg "column" "column" s_column ["rows", "place"] f7 _ := ⟨F7, PySem.W.mg_of X G a7, F7.binds (ps := ["rows", "place"]) fun _ _ _ _ _ _ us hl => match us, hl with | [_, _], _ => rfl⟩
  have F8 := fun_mk (st := s_turned_over) l8 c8 k8
  have D8 : DefAt K mg "turned_over" "turned_over" s_turned_over ["rows", "wide"] f8 _ := ⟨F8, PySem.W.mg_of X G a8, F8.binds (ps := ["rows", "wide"]) fun _ _ _ _ _ _ us hl => match us, hl with | [_, _], _ => rfl⟩
  have F9 := fun_mk (st := s_unit_row) l9 c9 k9
  have D9 : DefAt K mg "unit_row" "unit_row" s_unit_row ["n", "place"] f9 _ := ⟨F9, PySem.W.mg_of X G a9, F9.binds (ps := ["n", "place"]) fun _ _ _ _ _ _ us hl => match us, hl with | [_, _], _ => rfl⟩
  have F10 := fun_mk (st := s_unit_rows) l10 c10 k10
  have D10 : DefAt K mg "unit_rows" "unit_rows" s_unit_rows ["n"] f10 _ := ⟨F10, PySem.W.mg_of X G a10, F10.binds (ps := ["n"]) fun _ _ _ _ _ _ us hl => match us, hl with | [_], _ => rfl⟩
  have F11 := fun_mk (st := s_is_rows) l11 c11 k11
  have D11 : DefAt K mg "is_rows" "is_rows" s_is_rows ["thing", "many", "wide"] f11 _ := ⟨F11, PySem.W.mg_of X G a11, F11.binds (ps := ["thing", "many", "wide"]) fun _ _ _ _ _ _ us hl => match us, hl with | [_, _, _], _ => rfl⟩
  have F12 := fun_mk (st := s_are_back) l12 c12 k12
  have D12 : DefAt K mg "are_back" "are_back" s_are_back ["turn", "back"] f12 _ := ⟨F12, PySem.W.mg_of X G a12, F12.binds (ps := ["turn", "back"]) fun _ _ _ _ _ _ us hl => match us, hl with | [_, _], _ => rfl⟩
  have F13 := fun_mk (st := s_row_to_divide_by) l13 c13 k13
  have D13 : DefAt K mg "row_to_divide_by" "row_to_divide_by" s_row_to_divide_by ["rows", "place"] f13 _ := ⟨F13, PySem.W.mg_of X G a13, F13.binds (ps := ["rows", "place"]) fun _ _ _ _ _ _ us hl => match us, hl with | [_, _], _ => rfl⟩
  have F14 := fun_mk (st := s_row_below) l14 c14 k14
  have D14 : DefAt K mg "row_below" "row_below" s_row_below ["row", "head", "place", "divisor"] f14 _ := ⟨F14, PySem.W.mg_of X G a14, F14.binds (ps := ["row", "head", "place", "divisor"]) fun _ _ _ _ _ _ us hl => match us, hl with | [_, _, _, _], _ => rfl⟩
  have F15 := fun_mk (st := s_measure) l15 c15 k15
  have D15 : DefAt K mg "measure" "measure" s_measure ["rows"] f15 _ := ⟨F15, PySem.W.mg_of X G a15, F15.binds (ps := ["rows"]) fun _ _ _ _ _ _ us hl => match us, hl with | [_], _ => rfl⟩
  have F16 := fun_mk (st := s_common) l16 c16 k16
  have D16 : DefAt K mg "common" "common" s_common ["one", "other"] f16 _ := ⟨F16, PySem.W.mg_of X G a16, F16.binds (ps := ["one", "other"]) fun _ _ _ _ _ _ us hl => match us, hl with | [_, _], _ => rfl⟩
  have F17 := fun_mk (st := s_part) l17 c17 k17
  have D17 : DefAt K mg "part" "part" s_part ["top", "bottom"] f17 _ := ⟨F17, PySem.W.mg_of X G a17, F17.binds (ps := ["top", "bottom"]) fun _ _ _ _ _ _ us hl => match us, hl with | [_, _], _ => rfl⟩
  have F18 := fun_mk (st := s_plus) l18 c18 k18
  have D18 : DefAt K mg "plus" "plus" s_plus ["one", "other"] f18 _ := ⟨F18, PySem.W.mg_of X G a18, F18.binds (ps := ["one", "other"]) fun _ _ _ _ _ _ us hl => match us, hl with | [_, _], _ => rfl⟩
  have F19 := fun_mk (st := s_minus) l19 c19 k19
  have D19 : DefAt K mg "minus" "minus" s_minus ["one", "other"] f19 _ := ⟨F19, PySem.W.mg_of X G a19, F19.binds (ps := ["one", "other"]) fun _ _ _ _ _ _ us hl => match us, hl with | [_, _], _ => rfl⟩
  have F20 := fun_mk (st := s_times) l20 c20 k20
  have D20 : DefAt K mg "times" "times" s_times ["one", "other"] f20 _ := ⟨F20, PySem.W.mg_of X G a20, F20.binds (ps := ["one", "other"]) fun _ _ _ _ _ _ us hl => match us, hl with | [_, _], _ => rfl⟩
  have F21 := fun_mk (st := s_over) l21 c21 k21
  have D21 : DefAt K mg "over" "over" s_over ["one", "other"] f21 _ := ⟨F21, PySem.W.mg_of X G a21, F21.binds (ps := ["one", "other"]) fun _ _ _ _ _ _ us hl => match us, hl with | [_, _], _ => rfl⟩
  have F22 := fun_mk (st := s_before) l22 c22 k22
  have D22 : DefAt K mg "before" "before" s_before ["one", "other"] f22 _ := ⟨F22, PySem.W.mg_of X G a22, F22.binds (ps := ["one", "other"]) fun _ _ _ _ _ _ us hl => match us, hl with | [_, _], _ => rfl⟩
  have F23 := fun_mk (st := s_floor_of) l23 c23 k23
  have D23 : DefAt K mg "floor_of" "floor_of" s_floor_of ["one"] f23 _ := ⟨F23, PySem.W.mg_of X G a23, F23.binds (ps := ["one"]) fun _ _ _ _ _ _ us hl => match us, hl with | [_], _ => rfl⟩
  have F24 := fun_mk (st := s_whole) l24 c24 k24
  have D24 : DefAt K mg "whole" "whole" s_whole ["n"] f24 _ := ⟨F24, PySem.W.mg_of X G a24, F24.binds (ps := ["n"]) fun _ _ _ _ _ _ us hl => match us, hl with | [_], _ => rfl⟩
  have F25 := fun_mk (st := s_law_box) l25 c25 k25
  have D25 : DefAt K mg "_law_box" "_law_box" s_law_box ["_law_script", "_law_k"] f25 _ := ⟨F25, PySem.W.mg_of X G a25, F25.binds (ps := ["_law_script", "_law_k"]) fun _ _ _ _ _ _ us hl => match us, hl with | [_, _], _ => rfl⟩
  have F26 := fun_mk (st := s_law_take) l26 c26 k26
  have D26 : DefAt K mg "_law_take" "_law_take" s_law_take ["_law_box_here", "_law_many"] f26 _ := ⟨F26, PySem.W.mg_of X G a26, F26.binds (ps := ["_law_box_here", "_law_many"]) fun _ _ _ _ _ _ us hl => match us, hl with | [_, _], _ => rfl⟩
  have F27 := fun_mk (st := s_law_small) l27 c27 k27
  have D27 : DefAt K mg "_law_small" "_law_small" s_law_small ["_law_box_here"] f27 _ := ⟨F27, PySem.W.mg_of X G a27, F27.binds (ps := ["_law_box_here"]) fun _ _ _ _ _ _ us hl => match us, hl with | [_], _ => rfl⟩
  have F28 := fun_mk (st := s_law_number) l28 c28 k28
  have D28 : DefAt K mg "_law_number" "_law_number" s_law_number ["_law_box_here"] f28 _ := ⟨F28, PySem.W.mg_of X G a28, F28.binds (ps := ["_law_box_here"]) fun _ _ _ _ _ _ us hl => match us, hl with | [_], _ => rfl⟩
  have F29 := fun_mk (st := s_law_rows) l29 c29 k29
  have D29 : DefAt K mg "_law_rows" "_law_rows" s_law_rows ["_law_box_here", "_law_many", "_law_wide"] f29 _ := ⟨F29, PySem.W.mg_of X G a29, F29.binds (ps := ["_law_box_here", "_law_many", "_law_wide"]) fun _ _ _ _ _ _ us hl => match us, hl with | [_, _, _], _ => rfl⟩
  have F30 := fun_mk (st := s_law_size) l30 c30 k30
  have D30 : DefAt K mg "_law_size" "_law_size" s_law_size ["_law_box_here"] f30 _ := ⟨F30, PySem.W.mg_of X G a30, F30.binds (ps := ["_law_box_here"]) fun _ _ _ _ _ _ us hl => match us, hl with | [_], _ => rfl⟩
  have F31 := fun_mk (st := s_law_lowest) l31 c31 k31
  have D31 : DefAt K mg "_law_lowest" "_law_lowest" s_law_lowest ["_law_top", "_law_bottom"] f31 _ := ⟨F31, PySem.W.mg_of X G a31, F31.binds (ps := ["_law_top", "_law_bottom"]) fun _ _ _ _ _ _ us hl => match us, hl with | [_, _], _ => rfl⟩
  have F32 := fun_mk (st := s_law_fraction) l32 c32 k32
  have D32 : DefAt K mg "_law_fraction" "_law_fraction" s_law_fraction ["_law_box_here"] f32 _ := ⟨F32, PySem.W.mg_of X G a32, F32.binds (ps := ["_law_box_here"]) fun _ _ _ _ _ _ us hl => match us, hl with | [_], _ => rfl⟩
  have F33 := fun_mk (st := s_law_turn) l33 c33 k33
  have D33 : DefAt K mg "_law_turn" "_law_turn" s_law_turn ["_law_box_here", "_law_n", "_law_steps"] f33 _ := ⟨F33, PySem.W.mg_of X G a33, F33.binds (ps := ["_law_box_here", "_law_n", "_law_steps"]) fun _ _ _ _ _ _ us hl => match us, hl with | [_, _, _], _ => rfl⟩
  have F34 := fun_mk (st := s_law_field) l34 c34 k34
  have D34 : DefAt K mg "_law_field" "_law_field" s_law_field ["_law_one", "_law_other", "_law_third"] f34 _ := ⟨F34, PySem.W.mg_of X G a34, F34.binds (ps := ["_law_one", "_law_other", "_law_third"]) fun _ _ _ _ _ _ us hl => match us, hl with | [_, _, _], _ => rfl⟩
  have F35 := fun_mk (st := s_law) l35 c35 k35
  have D35 : DefAt K mg "law" "law" s_law ["_law_script"] fa _ := ⟨F35, PySem.W.mg_of X G a35, F35.binds (ps := ["_law_script"]) fun _ _ _ _ _ _ us hl => match us, hl with | [_], _ => rfl⟩
  refine ⟨PySem.W.fnOf "law" "law" (defArgs s_law) (defBody s_law) (defScope s_law) .none kV35 dc35 pm35 an35 cd35 ct35, fun s v => .of_eq rfl, fun base _ _ => ?_⟩
  have G0 : FnOk l.prog w K mg base CX0 1 f0 _ ["thing"] (LSp S_is_number) := ok_is_number B D0
  have G1 : FnOk l.prog w K mg base CX0 1 f1 _ ["thing"] (LSp S_is_listed) := ok_is_listed B D1
  have G2 : FnOk l.prog w K mg base CX0 2 f2 _ ["thing", "many"] (LSp S_is_listed_of) := ok_is_listed_of B D2 D1 G1
  have G3 : FnOk l.prog w K mg base CX0 3 f3 _ ["thing", "many"] (LSp S_are_numbers) := ok_are_numbers B D3 D2 G2 D0 G0
  have G4 : FnOk l.prog w K mg base CX0 1 f4 _ ["row", "times", "other"] (LSp S_added) := ok_added B D4
  have G5 : FnOk l.prog w K mg base CX0 2 f5 _ ["weights", "rows", "wide"] (LSp S_sum_by) := ok_sum_by B D5 D4 G4
  have G6 : FnOk l.prog w K mg base CX0 3 f6 _ ["one", "other"] (LSp S_product) := ok_product B D6 D5 G5
  have G7 : FnOk l.prog w K mg base CX0 1 f7 _ ["rows", "place"] (LSp S_column) := ok_column B D7
  have G8 : FnOk l.prog w K mg base CX0 2 f8 _ ["rows", "wide"] (LSp S_turned_over) := ok_turned_over B D8 D7 G7
  have G9 : FnOk l.prog w K mg base CX0 1 f9 _ ["n", "place"] (LSp S_unit_row) := ok_unit_row B D9
  have G10 : FnOk l.prog w K mg base CX0 2 f10 _ ["n"] (LSp S_unit_rows) := ok_unit_rows B D10 D9 G9
  have G11 : FnOk l.prog w K mg base CX0 4 f11 _ ["thing", "many", "wide"] (LSp S_is_rows) := ok_is_rows B D11 D1 G1 D3 G3
  have G12 : FnOk l.prog w K mg base CX0 5 f12 _ ["turn", "back"] (LSp S_are_back) := ok_are_back B D12 D1 G1 D11 G11 D6 G6 D10 G10
  have G13 : FnOk l.prog w K mg base CX0 1 f13 _ ["rows", "place"] (LSp S_row_to_divide_by) := ok_row_to_divide_by B D13
  have G14 : FnOk l.prog w K mg base CX0 1 f14 _ ["row", "head", "place", "divisor"] (LSp S_row_below) := ok_row_below B D14
  have G15 : FnOk l.prog w K mg base CX0 2 f15 _ ["rows"] (LSp S_measure) := ok_measure B D15 D13 G13 D14 G14
  have G16 : FnOk l.prog w K mg base CX0 1 f16 _ ["one", "other"] (LSp S_common) := ok_common B D16
  have G17 : FnOk l.prog w K mg base CX0 2 f17 _ ["top", "bottom"] (LSp S_part) := ok_part B D17 D16 G16
  have G18 : FnOk l.prog w K mg base CX0 3 f18 _ ["one", "other"] (LSp S_plus) := ok_plus B D18 D17 G17
  have G19 : FnOk l.prog w K mg base CX0 3 f19 _ ["one", "other"] (LSp S_minus) := ok_minus B D19 D17 G17
  have G20 : FnOk l.prog w K mg base CX0 3 f20 _ ["one", "other"] (LSp S_times) := ok_times B D20 D17 G17
  have G21 : FnOk l.prog w K mg base CX0 3 f21 _ ["one", "other"] (LSp S_over) := ok_over B D21 D17 G17
  have G22 : FnOk l.prog w K mg base CX0 1 f22 _ ["one", "other"] (LSp S_before) := ok_before B D22
  have G23 : FnOk l.prog w K mg base CX0 1 f23 _ ["one"] (LSp S_floor_of) := ok_floor_of B D23
  have G24 : FnOk l.prog w K mg base CX0 1 f24 _ ["n"] (LSp S_whole) := ok_whole B D24
  have G25 : FnOk l.prog w K mg base CX0 1 f25 _ ["_law_script", "_law_k"] (LSp S_law_box) := ok_law_box B D25
  have G26 : FnOk l.prog w K mg base CX0 1 f26 _ ["_law_box_here", "_law_many"] (LSp S_law_take) := ok_law_take B D26
  have G27 : FnOk l.prog w K mg base CX0 2 f27 _ ["_law_box_here"] (LSp S_law_small) := ok_law_small B D27 D26 G26
  have G28 : FnOk l.prog w K mg base CX0 3 f28 _ ["_law_box_here"] (LSp S_law_number) := ok_law_number B D28 D26 G26 D27 G27
  have G29 : FnOk l.prog w K mg base CX0 4 f29 _ ["_law_box_here", "_law_many", "_law_wide"] (LSp S_law_rows) := ok_law_rows B D29 D28 G28
  have G30 : FnOk l.prog w K mg base CX0 2 f30 _ ["_law_box_here"] (LSp S_law_size) := ok_law_size B D30 D26 G26
  have G31 : FnOk l.prog w K mg base CX0 1 f31 _ ["_law_top", "_law_bottom"] (LSp S_law_lowest) := ok_law_lowest B D31
  have G32 : FnOk l.prog w K mg base CX0 4 f32 _ ["_law_box_here"] (LSp S_law_fraction) := ok_law_fraction B D32 D28 G28 D31 G31
  have G33 : FnOk l.prog w K mg base CX0 2 f33 _ ["_law_box_here", "_law_n", "_law_steps"] (LSp S_law_turn) := ok_law_turn B D33 D26 G26
  have G34 : FnOk l.prog w K mg base CX0 4 f34 _ ["_law_one", "_law_other", "_law_third"] (LSp S_law_field) := ok_law_field B D34 D18 G18 D20 G20 D19 G19 D21 G21 D23 G23 D24 G24 D22 G22
  have G35 : FnOk l.prog w K mg base CX0 6 fa _ ["_law_script"] (LSp S_law) := ok_law B D35 D25 G25 D30 G30 D29 G29 D15 G15 D6 G6 D8 G8 D33 G33 D12 G12 D32 G32 D34 G34
  exact G35.imp fun vs H Q E h => lawSp_of nl h
theorem walk {l : PySem.W.OpenLaw} {q : Program} {loose : List Str} {XP : (Str → Option Value) → Heap → Prop} {YP : World → Heap → Prop} {d : DefRec} {K : Params → PySem.W.Frag} (hn : l.most = some 63) (hdf : d.params.defaults = [])
    (hY : ∀ (w : World) (h : Heap), YP w h → (K w.params).In h)
    (F : ∀ (w : World) (mg : Str → Option Value) (fa : Addr) (h : Heap), (K w.params).In h → h.Ns mainGlobals mg → mg d.name = some (.ref fa) →
      ∃ fd : FuncData, (∀ (s : Shared) (u : Value), BindsTo s fd ⟨[u], []⟩ [("_law_script", u)]) ∧ ∀ base : Heap, (K w.params).In base → base.Ns mainGlobals mg → FnOk l.prog w (K w.params) mg base CX0 6 fa fd ["_law_script"] (lawSp (K w.params))) :
    PySem.W.WalkO q loose XP YP l.row.toRowW d [] (fun f vs => PySem.call f vs) :=
  L2.walk_of (n := 63) (k := 6) (x := "_law_script") (CX := fun _ => CX0) (sp := fun w => lawSp (K w.params)) hn (by decide) hdf ⟨rfl, by decide, by decide⟩ hY F (fun _ _ a ns hl _ hS => ⟨a, ns, rfl, hS, hl, fun _ => rfl⟩) fun _ _ _ _ _ z => z
end Row
open PySem PySem.W PyProof.Rows
set_option maxRecDepth 100000 in
set_option maxHeartbeats 0 in
theorem PySem.Challenge.cw_latticeworks_k09_whole_measures_and_turn_holds : PySem.Challenge.rw_latticeworks_k09_whole_measures_and_turn.Holds := by
  w_on; o_law; k_head; (case hw => w_witness2)
  k_fill
  refine Row.walk (l := PySem.Challenge.rw_latticeworks_k09_whole_measures_and_turn) rfl rfl (fun w h Y => PySem.W.kIn_of Y) ?F
  case F =>
    intro w mg fa h KX G hmg
    refine' Row.all_mk KX G hmg ?a0 ?l0 ?c0 ?k0 ?a1 ?l1 ?c1 ?k1 ?a2 ?l2 ?c2 ?k2 ?a3 ?l3 ?c3 ?k3 ?a4 ?l4 ?c4 ?k4 ?a5 ?l5 ?c5 ?k5 ?a6 ?l6 ?c6 ?k6 ?a7 ?l7 ?c7 ?k7 ?a8 ?l8 ?c8 ?k8 ?a9 ?l9 ?c9 ?k9 ?a10 ?l10 ?c10 ?k10 ?a11 ?l11 ?c11 ?k11 ?a12 ?l12 ?c12 ?k12 ?a13 ?l13 ?c13 ?k13 ?a14 ?l14 ?c14 ?k14 ?a15 ?l15 ?c15 ?k15 ?a16 ?l16 ?c16 ?k16 ?a17 ?l17 ?c17 ?k17 ?a18 ?l18 ?c18 ?k18 ?a19 ?l19 ?c19 ?k19 ?a20 ?l20 ?c20 ?k20 ?a21 ?l21 ?c21 ?k21 ?a22 ?l22 ?c22 ?k22 ?a23 ?l23 ?c23 ?k23 ?a24 ?l24 ?c24 ?k24 ?a25 ?l25 ?c25 ?k25 ?a26 ?l26 ?c26 ?k26 ?a27 ?l27 ?c27 ?k27 ?a28 ?l28 ?c28 ?k28 ?a29 ?l29 ?c29 ?k29 ?a30 ?l30 ?c30 ?k30 ?a31 ?l31 ?c31 ?k31 ?a32 ?l32 ?c32 ?k32 ?a33 ?l33 ?c33 ?k33 ?a34 ?l34 ?c34 ?k34 ?a35 ?l35 ?c35 ?k35 ?z_int ?z_isinstance ?z_bool ?z_tuple ?z_list ?z_len ?z_all ?z_zip ?z_range ?z_abs ?z_max ?z_min ?nl
    (case a0 => k_is)
    (case l0 => k_is)
    (case c0 => k_is)
    (case k0 => k_is)
    (case a1 => k_is)
    (case l1 => k_is)
    (case c1 => k_is)
    (case k1 => k_is)
    (case a2 => k_is)
    (case l2 => k_is)
    (case c2 => k_is)
    (case k2 => k_is)
    (case a3 => k_is)
    (case l3 => k_is)
    (case c3 => k_is)
    (case k3 => k_is)
    (case a4 => k_is)
    (case l4 => k_is)
    (case c4 => k_is)
    (case k4 => k_is)
    (case a5 => k_is)
    (case l5 => k_is)
    (case c5 => k_is)
    (case k5 => k_is)
    (case a6 => k_is)
    (case l6 => k_is)
    (case c6 => k_is)
    (case k6 => k_is)
    (case a7 => k_is)
    (case l7 => k_is)
    (case c7 => k_is)
    (case k7 => k_is)
    (case a8 => k_is)
    (case l8 => k_is)
    (case c8 => k_is)
    (case k8 => k_is)
    (case a9 => k_is)
    (case l9 => k_is)
    (case c9 => k_is)
    (case k9 => k_is)
    (case a10 => k_is)
    (case l10 => k_is)
    (case c10 => k_is)
    (case k10 => k_is)
    (case a11 => k_is)
    (case l11 => k_is)
    (case c11 => k_is)
    (case k11 => k_is)
    (case a12 => k_is)
    (case l12 => k_is)
    (case c12 => k_is)
    (case k12 => k_is)
    (case a13 => k_is)
    (case l13 => k_is)
    (case c13 => k_is)
    (case k13 => k_is)
    (case a14 => k_is)
    (case l14 => k_is)
    (case c14 => k_is)
    (case k14 => k_is)
    (case a15 => k_is)
    (case l15 => k_is)
    (case c15 => k_is)
    (case k15 => k_is)
    (case a16 => k_is)
    (case l16 => k_is)
    (case c16 => k_is)
    (case k16 => k_is)
    (case a17 => k_is)
    (case l17 => k_is)
    (case c17 => k_is)
    (case k17 => k_is)
    (case a18 => k_is)
    (case l18 => k_is)
    (case c18 => k_is)
    (case k18 => k_is)
    (case a19 => k_is)
    (case l19 => k_is)
    (case c19 => k_is)
    (case k19 => k_is)
    (case a20 => k_is)
    (case l20 => k_is)
    (case c20 => k_is)
    (case k20 => k_is)
    (case a21 => k_is)
    (case l21 => k_is)
    (case c21 => k_is)
    (case k21 => k_is)
    (case a22 => k_is)
    (case l22 => k_is)
    (case c22 => k_is)
    (case k22 => k_is)
    (case a23 => k_is)
    (case l23 => k_is)
    (case c23 => k_is)
    (case k23 => k_is)
    (case a24 => k_is)
    (case l24 => k_is)
    (case c24 => k_is)
    (case k24 => k_is)
    (case a25 => k_is)
    (case l25 => k_is)
    (case c25 => k_is)
    (case k25 => k_is)
    (case a26 => k_is)
    (case l26 => k_is)
    (case c26 => k_is)
    (case k26 => k_is)
    (case a27 => k_is)
    (case l27 => k_is)
    (case c27 => k_is)
    (case k27 => k_is)
    (case a28 => k_is)
    (case l28 => k_is)
    (case c28 => k_is)
    (case k28 => k_is)
    (case a29 => k_is)
    (case l29 => k_is)
    (case c29 => k_is)
    (case k29 => k_is)
    (case a30 => k_is)
    (case l30 => k_is)
    (case c30 => k_is)
    (case k30 => k_is)
    (case a31 => k_is)
    (case l31 => k_is)
    (case c31 => k_is)
    (case k31 => k_is)
    (case a32 => k_is)
    (case l32 => k_is)
    (case c32 => k_is)
    (case k32 => k_is)
    (case a33 => k_is)
    (case l33 => k_is)
    (case c33 => k_is)
    (case k33 => k_is)
    (case a34 => k_is)
    (case l34 => k_is)
    (case c34 => k_is)
    (case k34 => k_is)
    (case a35 => k_is)
    (case l35 => k_is)
    (case c35 => k_is)
    (case k35 => k_is)
    (case z_int => k_is)
    (case z_isinstance => k_is)
    (case z_bool => k_is)
    (case z_tuple => k_is)
    (case z_list => k_is)
    (case z_len => k_is)
    (case z_all => k_is)
    (case z_zip => k_is)
    (case z_range => k_is)
    (case z_abs => k_is)
    (case z_max => k_is)
    (case z_min => k_is)
    (case nl => first | (with_unfolding_all rfl) | kernel_rfl)
