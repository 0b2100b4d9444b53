import PyProof.Rows.All
import Wide.All
import OpenK.AllK
import Wide.FinOn
import Lean
import PyProof.EqAt
import PyProof.EqKinds
import PyProof.TupleCall
import PySem.Challenge.RW_nearland_k10_refusals
set_option Elab.async false
set_option linter.all false
set_option maxRecDepth 100000
namespace L2
open PySem PySem.Spec PyProof.Rows
abbrev Key := Sum Int Str
def keyIs : Key → Value → Bool
  | .inl k, v => Value.isInt k v
  | .inr x, v => Value.isStrOf x v
def keyH (w : World) : Key → Int
  | .inl k => hashInt k
  | .inr x => hashStr w x
theorem keyIs_shape : ∀ {k : Key} {v : Value}, keyIs k v = true → (∃ i t, k = Sum.inl i ∧ v = Value.int i t) ∨ (∃ x t, k = Sum.inr x ∧ v = Value.str x t)
  | .inl i, v, h => by
    obtain ⟨t, e⟩ := Value.isInt_shape (k := i) (v := v) h
    exact .inl ⟨i, t, rfl, e⟩
  | .inr x, v, h => by
    obtain ⟨t, e⟩ := Value.isStrOf_shape (x := x) (v := v) h
    exact .inr ⟨x, t, rfl, e⟩
theorem key_ll (a b : Int) : decide ((Sum.inl a : Key) = Sum.inl b) = (a == b) := by
  by_cases e : a = b
  · subst e; simp
  · have h : ¬ (Sum.inl a : Key) = Sum.inl b := fun q => e (Sum.inl.inj q)
    rw [decide_eq_false h]
    exact (beq_eq_false_iff_ne.mpr e).symm
theorem key_rr (a b : Str) : decide ((Sum.inr a : Key) = Sum.inr b) = decide (a = b) := by
  by_cases e : a = b
  · subst e; simp
  · have h : ¬ (Sum.inr a : Key) = Sum.inr b := fun q => e (Sum.inr.inj q)
    rw [decide_eq_false h, decide_eq_false e]
theorem key_lr (a : Int) (b : Str) : decide ((Sum.inl a : Key) = Sum.inr b) = false := decide_eq_false (fun q => nomatch q)
theorem key_rl (a : Str) (b : Int) : decide ((Sum.inr a : Key) = Sum.inl b) = false := decide_eq_false (fun q => nomatch q)
def mixKind (prog : Program) (w : World) : PySem.KeyKind prog w Key where
  is := keyIs
  hash := keyH w
  inj := fun v a b ha hb => by
    rcases keyIs_shape ha with ⟨i, t, rfl, rfl⟩ | ⟨x, t, rfl, rfl⟩
    · rcases keyIs_shape hb with ⟨j, u, rfl, e⟩ | ⟨y, u, rfl, e⟩
      · injection e with e1 _; rw [e1]
      · exact nomatch e
    · rcases keyIs_shape hb with ⟨j, u, rfl, e⟩ | ⟨y, u, rfl, e⟩
      · exact nomatch e
      · injection e with e1 _; rw [e1]
  byValue := fun k v h => by
    rcases keyIs_shape h with ⟨i, t, rfl, rfl⟩ | ⟨x, t, rfl, rfl⟩ <;> rfl
  pyHash := fun hv h => by
    rcases keyIs_shape hv with ⟨i, t, rfl, rfl⟩ | ⟨x, t, rfl, rfl⟩
    · exact wpAny_pyHash_int h
    · exact wpAny_pyHash_str h
  eqBool := fun hu hv h => by
    rcases keyIs_shape hu with ⟨i, t, rfl, rfl⟩ | ⟨x, t, rfl, rfl⟩
    · rcases keyIs_shape hv with ⟨j, u, rfl, rfl⟩ | ⟨y, u, rfl, rfl⟩
      · rw [key_ll] at h; exact wpAny_eqBool_int h
      · rw [key_lr] at h; exact SeqAt.EqAt.int_str i t y u _ _ _ _ h
    · rcases keyIs_shape hv with ⟨j, u, rfl, rfl⟩ | ⟨y, u, rfl, rfl⟩
      · rw [key_rl] at h; exact SeqAt.EqAt.str_int x t j u _ _ _ _ h
      · rw [key_rr] at h; exact wpAny_eqBool_str h
  «strs» := fun k x t v h => by
    rcases keyIs_shape h with ⟨i, u, rfl, e⟩ | ⟨y, u, rfl, e⟩
    · exact nomatch e
    · injection e with e1 _
      subst e1
      cases v <;> rfl
end L2
namespace L2
open PySem PySem.Spec PyProof.Rows
inductive V where
  | non | bl (b : Bool) | int (i : Int) | str (x : Str) | byt (b : Array UInt8) | flt (b : UInt64) | ref (a : Addr) | ty (n : String)
  deriving DecidableEq
def RelV : V → Value → Prop
  | .non, u => u = Value.none
  | .bl b, u => u = Value.bool b
  | .int i, u => ∃ t, u = Value.int i t
  | .str x, u => ∃ t, u = Value.str x t
  | .byt b, u => ∃ t, u = Value.bytes b t
  | .flt b, u => ∃ t, u = Value.float b t
  | .ref a, u => u = Value.ref a
  | .ty n, u => u = Value.type n
abbrev Vals : List V → List Value → Prop := Paired RelV
theorem Vals.length {xs : List V} {us : List Value} (r : Vals xs us) : xs.length = us.length := Paired.length r
theorem Vals.get : ∀ {xs : List V} {us : List Value} {i : Nat} {x : V}, Vals xs us → xs[i]? = some x → ∃ u, us[i]? = some u ∧ RelV x u
  | _, _, _, _, .nil, e => by simp at e
  | _, _, 0, _, .cons r _, e => by simp at e; subst e; exact ⟨_, rfl, r⟩
  | _, _, i + 1, x, .cons _ t, e => by
    obtain ⟨u, h1, h2⟩ := Vals.get (i := i) (x := x) t (by simpa using e)
    exact ⟨u, by simpa using h1, h2⟩
theorem Vals.set {x : V} {u : Value} (r : RelV x u) : ∀ {xs : List V} {us : List Value} (i : Nat), Vals xs us → Vals (xs.set i x) (us.set i u)
  | _, _, _, .nil => .nil
  | _, _, 0, .cons _ t => .cons r t
  | _, _, i + 1, .cons q t => .cons q (Vals.set r i t)
theorem Vals.append : ∀ {xs ys : List V} {us ws : List Value}, Vals xs us → Vals ys ws → Vals (xs ++ ys) (us ++ ws)
  | _, _, _, _, .nil, s => s
  | _, _, _, _, .cons r t, s => .cons r (Vals.append t s)
theorem Vals.take : ∀ {xs : List V} {us : List Value} (n : Nat), Vals xs us → Vals (xs.take n) (us.take n)
  | _, _, 0, _ => .nil
  | _, _, _ + 1, .nil => .nil
  | _, _, n + 1, .cons r t => .cons r (Vals.take n t)
theorem Vals.drop : ∀ {xs : List V} {us : List Value} (n : Nat), Vals xs us → Vals (xs.drop n) (us.drop n)
  | _, _, 0, r => r
  | _, _, _ + 1, .nil => .nil
  | _, _, n + 1, .cons _ t => Vals.drop n t
def RelO : Option V → Option Value → Prop
  | some v, some u => RelV v u
  | none, none => True
  | _, _ => False
def KV {κ : Type} : List (κ × V) → List (κ × Value) → Prop := Paired fun (p : κ × V) (q : κ × Value) => p.1 = q.1 ∧ RelV p.2 q.2
def kV : Key → V
  | .inl i => .int i
  | .inr x => .str x
inductive HO where
  | lst (xs : List V)
  | tup (xs : List V)
  | dK (kvs : List (Key × V)) | dT (kvs : List (List Key × V))
  | set (S : Int → Bool) (n : Nat)
  | ins (C dx : Addr) (fs : List (Str × V))
  | own (x : Addr)
  | xd (fs : List (Str × V))
  | met (f x : Addr)
  | rng (lo hi : Int)
  | frz (o : Obj) (u : HO)
  | tbl (ps : Array Value)
  | ext (φ : Heap → Prop)
abbrev Hp := Addr → Option HO
def upd (H : Hp) (a : Addr) (o : HO) : Hp := fun b => if b = a then some o else H b
theorem upd_same {H : Hp} {a : Addr} {o : HO} : upd H a o a = some o := by unfold upd; rw [if_pos rfl]
theorem upd_ne {H : Hp} {a b : Addr} {o : HO} (h : b ≠ a) : upd H a o b = H b := by unfold upd; rw [if_neg h]
theorem ne_of {H : Hp} {a b : Addr} {o u : HO} (h : H a = some o) (h' : H b = some u) (d : o ≠ u) : a ≠ b := by
  intro e; subst e; rw [h] at h'; exact d (Option.some.inj h')
theorem ne_of_none {H : Hp} {a b : Addr} {o : HO} (h : H a = some o) (h' : H b = none) : a ≠ b := by
  intro e; subst e; rw [h] at h'; cases h'
section
variable (P : Program) (w : World)
def ObjOk (H : Hp) (h : Heap) (a : Addr) : HO → Prop
  | .lst xs => xs.length ≤ sizeLine ∧ ∃ (its : List Value) (n : Nat), Vals xs its ∧ h.get? a = some { cls := .type "list", data := .seq its.toArray n }
  | .tup xs => xs.length ≤ sizeLine ∧ ∃ its : List Value, Vals xs its ∧ IsTup h a its.toArray
  | .dK kvs => kvs.length ≤ sizeLine ∧ (a == sysModules) = false ∧ ∃ vs, KV kvs vs ∧ h.DictOf (mixKind P w) a vs
  | .dT kvs => kvs.length ≤ sizeLine ∧ (a == sysModules) = false ∧ ∃ xs : List (List Key × Addr × Value),
      Paired (fun (p : List Key × V) (q : List Key × Addr × Value) => p.1 = q.1 ∧ H q.2.1 = some (.tup (p.1.map kV)) ∧ RelV p.2 q.2.2) kvs xs ∧
      ∃ o es ep, h.get? a = some o ∧ o.ExactDict ∧ o.data = .dict es ep ∧ es.toList = xs.map (entryOfKey (tupleKind (mixKind P w))) ∧ (xs.map (·.1)).Nodup
  | .set S n => h.SetOf (intKind P w) a S n
  | .ins C dx fs => H dx = some (.own a) ∧ fs.length ≤ 1000 ∧ dx ≠ a ∧ h.get? a = some (PySem.W.instObj C dx) ∧
      ∃ mA, h.Ns1 dx mA ∧ (∀ f, RelO (fs.lookup f) (mA f)) ∧ PySem.Within mA (fs.map (·.1))
  | .own _ => ∃ o, h.get? a = some o
  | .xd fs => ∃ mA, h.Ns1 a mA ∧ ∀ f, RelO (fs.lookup f) (mA f)
  | .rng lo hi => ∃ t u v, h.get? a = some { cls := .type "range", data := .fields #[.int lo t, .int hi u, .int 1 v] }
  | .frz o u => h.get? a = some o ∧ ObjOk H h a u
  | .tbl ps => h.get? a = some { cls := .none, data := .fields ps }
  | .met f x => h.get? a = some (PySem.W.methodObj (.ref f) (.ref x))
  | .ext φ => φ h ∧ (∃ o, h.get? a = some o) ∧ ∀ h1 h2 : Heap, φ h1 → (∀ o, h1.get? a = some o → h2.get? a = some o) → φ h2
def HOk (H : Hp) (h : Heap) : Prop := ∀ a o, H a = some o → ObjOk P w H h a o
end
section
variable {P : Program} {w : World} {H H' : Hp} {h h' : Heap} {a : Addr} {o : HO}
theorem ObjOk.lt (x : ObjOk P w H h a o) : a < h.objs.size := by
  cases o with
  | lst xs => obtain ⟨_, _, _, _, e⟩ := x; exact Heap.lt_size e
  | tup xs => obtain ⟨_, _, _, p⟩ := x; exact p.lt
  | dK kvs => obtain ⟨_, _, _, _, o, _, _, e, _⟩ := x; exact Heap.lt_size e
  | dT kvs => obtain ⟨_, _, _, _, o, _, _, e, _⟩ := x; exact Heap.lt_size e
  | set S n => obtain ⟨o, _, _, _, e, _⟩ := x; exact Heap.lt_size e
  | ins C dx fs => obtain ⟨_, _, _, e, _⟩ := x; exact Heap.lt_size e
  | own y => obtain ⟨_, e⟩ := x; exact Heap.lt_size e
  | xd fs => obtain ⟨_, ⟨_, _, _, e, _⟩, _⟩ := x; exact Heap.lt_size e
  | rng lo hi => obtain ⟨_, _, _, e⟩ := x; exact Heap.lt_size e
  | frz ob u => obtain ⟨e, _⟩ := x; exact Heap.lt_size e
  | tbl ps => exact Heap.lt_size (show h.get? a = some _ from x)
  | met f y => exact Heap.lt_size (show h.get? a = some _ from x)
  | ext φ => obtain ⟨_, ⟨_, e⟩, _⟩ := x; exact Heap.lt_size e
theorem Paired.mapP {α β : Type} {F G : α → β → Prop} : ∀ {l₁ : List α} {l₂ : List β}, Paired F l₁ l₂ → (∀ a b, F a b → G a b) → Paired G l₁ l₂
  | _, _, .nil, _ => .nil
  | _, _, .cons r t, f => .cons (f _ _ r) (Paired.mapP t f)
theorem ObjOk.stay (x : ObjOk P w H h a o) (k : ∀ b u, (b = a ∨ H b = some (.own a)) → h.get? b = some u → h'.get? b = some u)
    (ho : ∀ b, H b = some (.own a) → H' b = some (.own a)) (ht : ∀ b xs, H b = some (.tup xs) → H' b = some (.tup xs)) : ObjOk P w H' h' a o := by
  induction o with
  | lst xs => obtain ⟨z, its, n, r, e⟩ := x; exact ⟨z, its, n, r, k _ _ (.inl rfl) e⟩
  | tup xs => obtain ⟨z, its, r, ob, e, c⟩ := x; exact ⟨z, its, r, ob, k _ _ (.inl rfl) e, c⟩
  | dK kvs => obtain ⟨z, y, vs, r, ob, es, ep, e, c⟩ := x; exact ⟨z, y, vs, r, ob, es, ep, k _ _ (.inl rfl) e, c⟩
  | dT kvs =>
    obtain ⟨z, y, xs, r, ob, es, ep, e, c⟩ := x
    exact ⟨z, y, xs, Paired.mapP r fun p q z => ⟨z.1, ht _ _ z.2.1, z.2.2⟩, ob, es, ep, k _ _ (.inl rfl) e, c⟩
  | set S n => obtain ⟨ob, es, ep, t, e, c⟩ := x; exact ⟨ob, es, ep, t, k _ _ (.inl rfl) e, c⟩
  | ins C dx fs =>
    obtain ⟨d, z, ne, e, mA, ⟨od, es, ep, e2, c⟩, r⟩ := x
    exact ⟨ho _ d, z, ne, k _ _ (.inl rfl) e, mA, ⟨od, es, ep, k _ _ (.inr d) e2, c⟩, r⟩
  | own y => obtain ⟨ob, e⟩ := x; exact ⟨ob, k _ _ (.inl rfl) e⟩
  | xd fs => obtain ⟨mA, ⟨od, es, ep, e, c⟩, r⟩ := x; exact ⟨mA, ⟨od, es, ep, k _ _ (.inl rfl) e, c⟩, r⟩
  | rng lo hi => obtain ⟨t, u, v, e⟩ := x; exact ⟨t, u, v, k _ _ (.inl rfl) e⟩
  | frz ob u ih => obtain ⟨e, q⟩ := x; exact ⟨k _ _ (.inl rfl) e, ih q⟩
  | tbl ps =>
    have e : h.get? a = some { cls := .none, data := .fields ps } := x
    show h'.get? a = some { cls := .none, data := .fields ps }
    exact k a _ (.inl rfl) e
  | met f y =>
    have e : h.get? a = some (PySem.W.methodObj (.ref f) (.ref y)) := x
    show h'.get? a = some (PySem.W.methodObj (.ref f) (.ref y))
    exact k a _ (.inl rfl) e
  | ext φ => obtain ⟨p, ⟨o, e⟩, st⟩ := x; exact ⟨st _ _ p fun o q => k _ _ (.inl rfl) q, ⟨o, k _ _ (.inl rfl) e⟩, st⟩
theorem HOk.lt (x : HOk P w H h) (e : H a = some o) : a < h.objs.size := (x a o e).lt
theorem HOk.fresh (x : HOk P w H h) (e : h.objs.size ≤ a) : H a = none := by
  cases q : H a with
  | none => rfl
  | some u => exact absurd (Nat.lt_of_lt_of_le (x.lt q) e) (Nat.lt_irrefl _)
theorem HOk.kept (x : HOk P w H h) (k : ∀ b u, h.get? b = some u → h'.get? b = some u) : HOk P w H h' := fun a o e =>
  (x a o e).stay (fun b u _ q => k b u q) (fun _ q => q) fun _ _ q => q
theorem HOk.laid (x : HOk P w H h) (k : ∀ b u, h.get? b = some u → h'.get? b = some u) (hp : h.objs.size ≤ a) (new : ObjOk P w (upd H a o) h' a o) : HOk P w (upd H a o) h' := fun b u e => by
  have hn := x.fresh hp
  by_cases hb : b = a
  · subst hb; rw [upd_same] at e; cases e; exact new
  · rw [upd_ne hb] at e
    exact (x b u e).stay (fun c v _ q => k c v q) (fun c q => by rw [upd_ne (ne_of_none q hn)]; exact q) fun c xs q => by rw [upd_ne (ne_of_none q hn)]; exact q
end
def Rd (H : Hp) (a : Addr) (u : HO) : Prop := H a = some u ∨ ∃ o, H a = some (.frz o u)
theorem Rd.of {H : Hp} {a : Addr} {u : HO} (h : H a = some u) : Rd H a u := .inl h
theorem Rd.ok {P : Program} {w : World} {H : Hp} {h : Heap} {a : Addr} {u : HO} (r : Rd H a u) (x : HOk P w H h) : ObjOk P w H h a u := by
  rcases r with r | ⟨o, r⟩
  · exact x a u r
  · obtain ⟨_, q⟩ := x a _ r
    exact q
def Mut : Option HO → Prop
  | some (.lst _) => True
  | some (.dK _) => True
  | some (.dT _) => True
  | some (.set _ _) => True
  | some (.ins _ _ _) => True
  | some (.ext _) => True
  | _ => False
section
variable {P : Program} {w : World} {H : Hp} {h h' : Heap} {x e : Addr} {o' : HO}
theorem HOk.write (ok : HOk P w H h) (mu : Mut (H x)) (he : e = x ∨ H e = some (.own x)) (k : ∀ b u, b ≠ e → h.get? b = some u → h'.get? b = some u) (heo : ∃ u, h'.get? e = some u)
    (new : ObjOk P w (upd H x o') h' x o') : HOk P w (upd H x o') h' := fun b u q => by
  have nown : ∀ c y, H c = some (.own y) → c ≠ x := fun c y r z => by subst z; rw [r] at mu; exact mu
  have ntup : ∀ c xs, H c = some (.tup xs) → c ≠ x := fun c xs r z => by subst z; rw [r] at mu; exact mu
  by_cases hb : b = x
  · subst hb; rw [upd_same] at q; cases q; exact new
  · rw [upd_ne hb] at q
    by_cases hbe : b = e
    · have q' : H b = some (.own x) := by
        rcases he with z | z
        · exact absurd (hbe.trans z) hb
        · rw [hbe]; exact z
      rw [q] at q'; cases q'
      obtain ⟨v, hv⟩ := heo
      exact ⟨v, by rw [hbe]; exact hv⟩
    · refine (ok b u q).stay (fun c v hc r => k c v ?_ r) (fun c r => by rw [upd_ne (nown c b r)]; exact r) fun c xs r => by rw [upd_ne (ntup c xs r)]; exact r
      rcases hc with rfl | hc
      · exact hbe
      · rintro rfl
        rcases he with z | z
        · exact nown c b hc z
        · rw [hc] at z; cases z; exact hb rfl
end
structure Un (fs ex : List Addr) (H H' : Hp) (h h' : Heap) : Prop where
  keep : ∀ b o, h.get? b = some o → H b = none → b ∉ fs → b ∉ ex → h'.get? b = some o
  slot : ∀ b o, h.get? b = some o → H b = none → b ∈ fs → b ∉ ex → ∃ sl, h'.get? b = some { o with slots := sl }
  free : ∀ b o, h.get? b = some o → H b = none → b ∉ ex → H' b = none
  there : ∀ b o, h.get? b = some o → b ∉ ex → ∃ o', h'.get? b = some o'
  tups : ∀ b xs, H b = some (.tup xs) → H' b = some (.tup xs)
  frzs : ∀ b o u, H b = some (.frz o u) → H' b = some (.frz o u)
  tbls : ∀ b ps, H b = some (.tbl ps) → ∃ more, H' b = some (.tbl (ps ++ more))
section
variable {fs fs' ex ex' : List Addr} {H H1 H2 : Hp} {h h1 h2 h' : Heap} {a x e : Addr} {o : HO}
theorem Un.any (u : Un fs ex H H1 h h1) {b : Addr} {ob : Obj} (q : h.get? b = some ob) (n : H b = none) (hx : b ∉ ex) : ∃ sl, h1.get? b = some { ob with slots := sl } := by
  by_cases hb : b ∈ fs
  · exact u.slot b ob q n hb hx
  · exact ⟨ob.slots, u.keep b ob q n hb hx⟩
theorem Un.trans (a : Un fs ex H H1 h h1) (b : Un fs ex H1 H2 h1 h2) : Un fs ex H H2 h h2 where
  keep := fun c ob q n hc hx => b.keep c ob (a.keep c ob q n hc hx) (a.free c ob q n hx) hc hx
  slot := fun c ob q n hc hx => by
    obtain ⟨sl, e1⟩ := a.slot c ob q n hc hx
    obtain ⟨sl', e2⟩ := b.slot c _ e1 (a.free c ob q n hx) hc hx
    exact ⟨sl', e2⟩
  free := fun c ob q n hx => by
    obtain ⟨o', e1⟩ := a.there c ob q hx
    exact b.free c o' e1 (a.free c ob q n hx) hx
  there := fun c ob q hx => by
    obtain ⟨o', e1⟩ := a.there c ob q hx
    exact b.there c o' e1 hx
  tups := fun c xs q => b.tups c xs (a.tups c xs q)
  frzs := fun c ob xs q => b.frzs c ob xs (a.frzs c ob xs q)
  tbls := fun c ps q => by
    obtain ⟨m1, e1⟩ := a.tbls c ps q
    obtain ⟨m2, e2⟩ := b.tbls c _ e1
    exact ⟨m1 ++ m2, by rw [e2, Array.append_assoc]⟩
theorem Un.kept (k : ∀ b u, h.get? b = some u → h'.get? b = some u) : Un fs ex H H h h' :=
  ⟨fun b ob q _ _ _ => k b ob q, fun b ob q _ _ _ => ⟨ob.slots, k b ob q⟩, fun _ _ _ n _ => n, fun b ob q _ => ⟨ob, k b ob q⟩, fun _ _ q => q, fun _ _ _ q => q, fun _ ps q => ⟨#[], by rw [q]; simp⟩⟩
theorem Un.refl : Un fs ex H H h h := Un.kept fun _ _ q => q
theorem Un.laid (k : ∀ b u, h.get? b = some u → h'.get? b = some u) (hp : h.objs.size ≤ a) (hn : H a = none) : Un fs ex H (upd H a o) h h' where
  keep := fun b u q _ _ _ => k b u q
  slot := fun b u q _ _ _ => ⟨u.slots, k b u q⟩
  free := fun b u q n _ => by rw [upd_ne (Nat.ne_of_lt (Nat.lt_of_lt_of_le (Heap.lt_size q) hp))]; exact n
  there := fun b u q _ => ⟨u, k b u q⟩
  tups := fun b xs q => by rw [upd_ne (ne_of_none q hn)]; exact q
  frzs := fun b u xs q => by rw [upd_ne (ne_of_none q hn)]; exact q
  tbls := fun b ps q => ⟨#[], by rw [upd_ne (ne_of_none q hn), q]; simp⟩
theorem Un.write (mu : Mut (H x)) (he : e = x ∨ H e = some (.own x)) (k : ∀ b u, b ≠ e → h.get? b = some u → h'.get? b = some u) (heo : ∃ u, h'.get? e = some u) : Un fs ex H (upd H x o) h h' := by
  have hx : ∀ b, H b = none → b ≠ x := fun b n z => by subst z; rw [n] at mu; exact mu
  have hb : ∀ b, H b = none → b ≠ e := fun b n z => by
    subst z
    rcases he with r | r
    · exact hx b n r
    · rw [n] at r; cases r
  have hm : ∀ b u, H b = some u → ¬ Mut (some u) → b ≠ x := fun b u q nm z => by subst z; rw [q] at mu; exact nm mu
  refine ⟨fun b u q n _ _ => k b u (hb b n) q, fun b u q n _ _ => ⟨u.slots, k b u (hb b n) q⟩, fun b u q n _ => by rw [upd_ne (hx b n)]; exact n, fun b u q _ => ?_,
    fun b xs q => by rw [upd_ne (hm b _ q fun z => z)]; exact q, fun b u xs q => by rw [upd_ne (hm b _ q fun z => z)]; exact q, fun b ps q => ⟨#[], by rw [upd_ne (hm b _ q fun z => z), q]; simp⟩⟩
  by_cases hbe : b = e
  · subst hbe; exact heo
  · exact ⟨u, k b u hbe q⟩
theorem Un.mono (u : Un fs ex H H1 h h1) (hs : ∀ b ∈ fs, b ∈ fs') (hx : ∀ b ∈ ex, b ∈ ex') : Un fs' ex' H H1 h h1 :=
  ⟨fun b ob q n hb he => u.keep b ob q n (fun z => hb (hs b z)) fun z => he (hx b z), fun _ _ q n _ he => u.any q n fun z => he (hx _ z), fun b ob q n he => u.free b ob q n fun z => he (hx b z), fun b ob q he => u.there b ob q fun z => he (hx b z), u.tups, u.frzs, u.tbls⟩
end
def trk (h : Heap) (H : Hp) : List Addr := (List.range h.objs.size).filter fun a => (H a).isSome
def hidT (h : Heap) (H : Hp) : Heap := PySem.W.hideAll h (trk h H)
theorem hidT_size (h : Heap) (H : Hp) : (hidT h H).objs.size = h.objs.size := PySem.W.hideAll_size _ _
theorem hidT_get {h : Heap} {H : Hp} {b : Addr} {o : Obj} (e : h.get? b = some o) (n : H b = none) : (hidT h H).get? b = some o :=
  PySem.W.hideAll_get _ e fun hm => by
    have q : (H b).isSome = true := (List.mem_filter.mp hm).2
    rw [n] at q; simp at q
theorem of_hidT {h : Heap} {H : Hp} {b : Addr} {o : Obj} (e : (hidT h H).get? b = some o) : h.get? b = some o ∧ H b = none := by
  have e' : h.get? b = some o := PySem.W.of_hideAll (trk h H) e
  refine ⟨e', ?_⟩
  cases q : H b with
  | none => rfl
  | some x =>
    have hm : b ∈ trk h H := List.mem_filter.mpr ⟨List.mem_range.mpr (Heap.lt_size e'), by simp [q]⟩
    have z : (hidT h H).get? b = none := PySem.W.hideAll_none (trk h H) hm
    rw [z] at e; cases e
def allNews (g h : Heap) (L : Addr) : List (Addr × Obj) := (List.range h.objs.size).filterMap fun a => if a = L ∨ (g.get? a).isSome = true then none else (h.get? a).map fun o => (a, o)
def rest (g h : Heap) (L d : Addr) : List (Addr × Obj) := (allNews g h L).filter fun p => decide (p.1 ≠ d)
end L2
namespace L2
open PySem PySem.Spec PyProof.Rows
structure Mod (K : PySem.W.Frag) (mg : Str → Option Value) (base : Heap) : Prop where
  kin : K.In base
  glob : base.Ns mainGlobals mg
  blt : ∃ mb, base.Ns builtinsNs mb ∧ ∀ x : Str, x ≠ "__name__" → mb x = bootBuiltins x
  nolimit : base.NoLimit
structure Cx where
  prog : Program
  w : World
  K : PySem.W.Frag
  mg : Str → Option Value
  base : Heap
  A : Around
  N : List Str
  s₀ : Shared
  H₀ : Hp
  env : Env
  outer : List Env
  stack : List Env
  ex : List Addr
  fn : Str → Bool
  calm : Bool
  pn : List (Addr × Obj)
  xe : Value → Shared → Prop
def frs (l : List Env) : List Addr := l.filterMap (·.frame)
abbrev Cx.fs (X : Cx) : List Addr := frs X.outer
def Vis (sc : Scope) (x : Str) : Prop := sc.names.lookup x = some .local ∨ sc.names.lookup x = some .cell ∨ sc.names.lookup x = some .free
def Loc (sc : Scope) (x : Str) : Prop := sc.names.lookup x = some .local ∨ sc.names.lookup x = some .cell
def Look (env : Env) (h : Heap) (m : Str → Option Value) (x : Str) (u : Value) : Prop :=
  (env.kindOf x = some .local ∧ m x = some u) ∨ ((env.kindOf x = some .cell ∨ env.kindOf x = some .free) ∧ ∃ c, env.cells.lookup x = some c ∧ h.IsCell c (some u))
structure Cx.Ok (X : Cx) : Prop where
  mod : Mod X.K X.mg X.base
  kind : X.env.scope.kind = .function
  glob : X.env.globals = mainGlobals
  blt : X.env.builtins = builtinsNs
  above : X.s₀.heap.objs.size ≤ X.env.locals
  inj : ∀ x y c, X.env.cells.lookup x = some c → X.env.cells.lookup y = some c → x = y
  has : ∀ x, (X.env.kindOf x = some .cell ∨ X.env.kindOf x = some .free) → ∃ c, X.env.cells.lookup x = some c
  cab : ∀ x c, X.fn x = true → X.env.cells.lookup x = some c → X.s₀.heap.objs.size ≤ c
  hd : X.calm = true → X.A.handled = none
  frames : X.A.frames = some X.stack
  stk : X.stack = X.outer ∨ (X.stack = X.env :: X.outer ∧ X.env.frame = some X.env.locals)
  exf : ∀ b ∈ X.ex, b ≠ X.env.locals ∧ ∀ x c, X.env.cells.lookup x = some c → c ≠ b
  bs : ∀ b o, X.base.get? b = some o → X.s₀.heap.get? b = some o ∧ X.H₀ b = none
  bsz : X.base.objs.size ≤ X.s₀.heap.objs.size
  noex : ∀ b o, X.base.get? b = some o → b ∉ X.ex
  exfs : ∀ b ∈ X.ex, b ∉ X.fs
  funs : X.s₀.heap.FunFrames X.base X.outer
  frf : ∀ b ∈ X.fs, X.H₀ b = none
structure Inv (X : Cx) (pins : List (Addr × Obj)) (σ : List (Option V)) (H : Hp) (s : Shared) : Prop where
  ok : X.Ok
  os : s.os = X.s₀.os
  bare : AllBare s.gens
  base : Un X.fs X.ex X.H₀ H X.s₀.heap s.heap
  loc : ∃ m, s.heap.Ns X.env.locals m ∧ ∀ (i : Nat) (x : Str) (v : V), X.N[i]? = some x → σ[i]? = some (some v) → Vis X.env.scope x → ∃ u, RelV v u ∧ Look X.env s.heap m x u
  cell : ∀ x c, X.env.cells.lookup x = some c → ∃ v, s.heap.IsCell c v
  free : H X.env.locals = none
  freeC : ∀ x c, X.env.cells.lookup x = some c → H c = none
  pin : ∀ p ∈ X.pn ++ pins, s.heap.get? p.1 = some p.2 ∧ H p.1 = none ∧ p.1 ≠ X.env.locals ∧ p.1 ∉ X.fs ∧ ∀ v, p.2.data ≠ .cell v
  hok : HOk X.prog X.w H s.heap
  len : σ.length = X.N.length
section
variable {X : Cx} {pins : List (Addr × Obj)} {σ : List (Option V)} {H H' : Hp} {s : Shared} {h' : Heap}
theorem Cx.Ok.nofr (ok : X.Ok) {b : Addr} {o : Obj} (e : X.base.get? b = some o) : b ∉ X.fs := fun hb => by
  have := (ok.funs.mem hb).1
  rw [e] at this; cases this
theorem Inv.bs (I : Inv X pins σ H s) : ∀ b o, X.base.get? b = some o → s.heap.get? b = some o ∧ H b = none := fun b o e =>
  ⟨I.base.keep b o (I.ok.bs b o e).1 (I.ok.bs b o e).2 (I.ok.nofr e) (I.ok.noex b o e), I.base.free b o (I.ok.bs b o e).1 (I.ok.bs b o e).2 (I.ok.noex b o e)⟩
theorem Inv.bk (I : Inv X pins σ H s) : ∀ b o, X.base.get? b = some o → s.heap.get? b = some o := fun b o e => (I.bs b o e).1
theorem Inv.mod (I : Inv X pins σ H s) : Mod X.K X.mg X.base := I.ok.mod
theorem Inv.kIn (I : Inv X pins σ H s) : X.K.In s.heap := I.ok.mod.kin.keeps I.bk
theorem Inv.nolimit (I : Inv X pins σ H s) : s.heap.NoLimit := I.ok.mod.nolimit.keeps I.bk
theorem Inv.fr (I : Inv X pins σ H s) : ∃ m, Fr X.base X.env.locals s.heap m :=
  let ⟨m, hn, _⟩ := I.loc
  ⟨m, hn, I.bk, Nat.le_trans I.ok.bsz I.ok.above⟩
theorem Inv.lt (I : Inv X pins σ H s) : X.env.locals < s.heap.objs.size := let ⟨_, hn, _⟩ := I.loc; hn.lt
theorem Inv.sz (I : Inv X pins σ H s) : X.s₀.heap.objs.size ≤ s.heap.objs.size := Nat.le_trans I.ok.above (Nat.le_of_lt I.lt)
theorem Inv.nofs (I : Inv X pins σ H s) {a : Addr} (h : s.heap.objs.size ≤ a) : a ∉ X.fs := fun hb => by
  obtain ⟨_, o, ho, _⟩ := I.ok.funs.mem hb
  exact absurd (Nat.lt_of_lt_of_le (Heap.lt_size ho) (Nat.le_trans I.sz h)) (Nat.lt_irrefl _)
theorem Inv.cne (I : Inv X pins σ H s) : ∀ x c, X.env.cells.lookup x = some c → c ≠ X.env.locals := fun x c e z => by
  obtain ⟨v, o, ho, hd⟩ := I.cell x c e
  obtain ⟨m, ⟨o', es, ep, ho', hd', _⟩, _⟩ := I.loc
  rw [z, ho'] at ho; cases ho; rw [hd'] at hd; cases hd
theorem Inv.funs (I : Inv X pins σ H s) : s.heap.FunFrames X.base X.outer := by
  have all : ∀ (l : List Env), (∀ b ∈ frs l, b ∈ X.fs) → X.s₀.heap.FunFrames X.base l → s.heap.FunFrames X.base l := by
    intro l
    induction l with
    | nil => intro _ _; trivial
    | cons env r ih =>
      intro hs hl
      obtain ⟨hk, ⟨L, o, hf, hn, ho, hd⟩, hr⟩ := hl
      have hL : L ∈ X.fs := hs L (by unfold frs; rw [List.filterMap_cons, hf]; exact List.mem_cons_self)
      obtain ⟨sl, e⟩ := I.base.slot L o ho (I.ok.frf L hL) hL fun z => I.ok.exfs L z hL
      exact ⟨hk, ⟨L, _, hf, hn, e, hd⟩, ih (fun b hb => hs b (by unfold frs; rw [List.filterMap_cons, hf]; exact List.mem_cons_of_mem _ hb)) hr⟩
  exact all X.outer (fun _ hb => hb) I.ok.funs
theorem Inv.stack (I : Inv X pins σ H s) : s.heap.FunFrames X.base X.stack := by
  rcases I.ok.stk with e | ⟨e, hf⟩
  · rw [e]; exact I.funs
  · rw [e]
    obtain ⟨m, hn, _⟩ := I.loc
    refine .cons (by rw [I.ok.kind]; decide) hf hn ?_ I.funs
    exact Heap.get?_none_of_le (Nat.le_trans I.ok.bsz I.ok.above)
theorem Inv.stkSub (I : Inv X pins σ H s) : ∀ b ∈ frs X.stack, b ∈ X.env.locals :: X.fs := fun b hb => by
  rcases I.ok.stk with e | ⟨e, hf⟩
  · rw [e] at hb; exact List.mem_cons_of_mem _ hb
  · rw [e] at hb
    unfold frs at hb
    rw [List.filterMap_cons, hf] at hb
    exact hb
theorem Inv.stkFree (I : Inv X pins σ H s) : ∀ b ∈ frs X.stack, H b = none := fun b hb => by
  rcases List.mem_cons.mp (I.stkSub b hb) with e | hb
  · rw [e]; exact I.free
  · obtain ⟨_, o, ho, _⟩ := I.ok.funs.mem hb
    exact I.base.free b o ho (I.ok.frf b hb) fun z => I.ok.exfs b z hb
theorem Inv.step {g' : Array GenState} {t' : Nat} {d' : Drawn} {ch : List Addr} (I : Inv X pins σ H s)
    (hch : ∀ b ∈ ch, (b ∈ X.ex ∨ X.s₀.heap.objs.size ≤ b) ∧ b ≠ X.env.locals ∧ (∀ x c, X.env.cells.lookup x = some c → c ≠ b) ∧ ∀ p ∈ X.pn ++ pins, p.1 ≠ b)
    (keep : ∀ b o, b ≠ X.env.locals → b ∉ X.fs → b ∉ ch → s.heap.get? b = some o → H b = none → h'.get? b = some o)
    (slot : ∀ b o, b ≠ X.env.locals → b ∈ X.fs → b ∉ ch → s.heap.get? b = some o → H b = none → ∃ sl, h'.get? b = some { o with slots := sl }) (free : ∀ b o, b ∉ ch → s.heap.get? b = some o → H b = none → H' b = none)
    (there : ∀ b o, b ∉ ch → s.heap.get? b = some o → ∃ o', h'.get? b = some o')
    (tups : ∀ b xs, H b = some (.tup xs) → H' b = some (.tup xs)) (frzs : ∀ b o u, H b = some (.frz o u) → H' b = some (.frz o u)) (tbls : ∀ b ps, H b = some (.tbl ps) → ∃ more, H' b = some (.tbl (ps ++ more)))
    (ns : ∀ m, s.heap.Ns X.env.locals m → h'.Ns X.env.locals m) (hok : HOk X.prog X.w H' h') (hg : AllBare g') :
    Inv X pins σ H' { s with heap := h', gens := g', drawn := d', toks := t' } := by
  have neL : ∀ b o, X.s₀.heap.get? b = some o → b ≠ X.env.locals := fun b o e => Nat.ne_of_lt (Nat.lt_of_lt_of_le (Heap.lt_size e) I.ok.above)
  have neC : ∀ b o, X.s₀.heap.get? b = some o → b ∉ X.ex → b ∉ ch := fun b o e hx hb => by
    rcases (hch b hb).1 with z | z
    · exact hx z
    · exact absurd (Nat.lt_of_lt_of_le (Heap.lt_size e) z) (Nat.lt_irrefl _)
  have cellK : ∀ x c, X.env.cells.lookup x = some c → ∀ v, s.heap.IsCell c v → h'.IsCell c v := fun x c e v ⟨o, ho, hd⟩ => by
    have nch : c ∉ ch := fun z => (hch c z).2.2.1 x c e rfl
    by_cases hc : c ∈ X.fs
    · obtain ⟨sl, q⟩ := slot c o (I.cne x c e) hc nch ho (I.freeC x c e)
      exact ⟨_, q, hd⟩
    · exact ⟨o, keep c o (I.cne x c e) hc nch ho (I.freeC x c e), hd⟩
  refine ⟨I.ok, I.os, hg, ⟨fun b o e n hb hx => ?_, fun b o e n hb hx => ?_, fun b o e n hx => ?_, fun b o e hx => ?_, fun b xs e => tups b xs (I.base.tups b xs e), fun b o xs e => frzs b o xs (I.base.frzs b o xs e), fun b ps e => ?_⟩, ?_, fun x c e => ?_, ?_, fun x c e => ?_, fun p hp => ?_, hok, I.len⟩
  · exact keep b o (neL b o e) hb (neC b o e hx) (I.base.keep b o e n hb hx) (I.base.free b o e n hx)
  · obtain ⟨sl, e1⟩ := I.base.slot b o e n hb hx
    obtain ⟨sl', e2⟩ := slot b _ (neL b o e) hb (neC b o e hx) e1 (I.base.free b o e n hx)
    exact ⟨sl', e2⟩
  · obtain ⟨o', e1⟩ := I.base.there b o e hx
    exact free b o' (neC b o e hx) e1 (I.base.free b o e n hx)
  · obtain ⟨o', e1⟩ := I.base.there b o e hx
    exact there b o' (neC b o e hx) e1
  · obtain ⟨m1, e1⟩ := I.base.tbls b ps e
    obtain ⟨m2, e2⟩ := tbls b _ e1
    exact ⟨m1 ++ m2, by rw [e2, Array.append_assoc]⟩
  · obtain ⟨m, hn, hl⟩ := I.loc
    refine ⟨m, ns m hn, fun i x v e1 e2 e3 => ?_⟩
    obtain ⟨u, r, l⟩ := hl i x v e1 e2 e3
    refine ⟨u, r, ?_⟩
    rcases l with l | ⟨k, c, e, z⟩
    · exact .inl l
    · exact .inr ⟨k, c, e, cellK x c e _ z⟩
  · obtain ⟨v, z⟩ := I.cell x c e
    exact ⟨v, cellK x c e v z⟩
  · obtain ⟨m, ⟨o, _, _, ho, _⟩, _⟩ := I.loc
    exact free _ o (fun z => (hch _ z).2.1 rfl) ho I.free
  · obtain ⟨v, o, ho, hd⟩ := I.cell x c e
    exact free c o (fun z => (hch c z).2.2.1 x c e rfl) ho (I.freeC x c e)
  · obtain ⟨e, n, ne, nf, d⟩ := I.pin p hp
    have nch : p.1 ∉ ch := fun z => (hch p.1 z).2.2.2 p hp rfl
    exact ⟨keep p.1 p.2 ne nf nch e n, free p.1 p.2 nch e n, ne, nf, d⟩
theorem Inv.un {t' : Nat} (I : Inv X pins σ H s) (u : Un X.fs [] H H' s.heap h') (hok : HOk X.prog X.w H' h') : Inv X pins σ H' { s with heap := h', toks := t' } := by
  obtain ⟨m, ⟨o, es, ep, ho, r⟩, _⟩ := id I.loc
  obtain ⟨sl, hL⟩ := u.any ho I.free (by simp)
  exact I.step (g' := s.gens) (d' := s.drawn) (ch := []) (fun _ z => nomatch z) (fun b o _ hb _ e n => u.keep b o e n hb (by simp)) (fun b o _ hb _ e n => u.slot b o e n hb (by simp)) (fun b o _ e n => u.free b o e n (by simp)) (fun b o _ e => u.there b o e (by simp)) u.tups u.frzs u.tbls (fun m' hm => by
    obtain ⟨o', es', ep', ho', r'⟩ := hm
    rw [ho] at ho'; cases ho'
    exact ⟨_, es', ep', hL, r'⟩) hok I.bare
theorem Inv.call {g' : Array GenState} {t' : Nat} {d' : Drawn} {ch : List Addr} (I : Inv X pins σ H s) (u : Un (frs X.stack) ch H H' s.heap h') (hok : HOk X.prog X.w H' h') (hg : AllBare g')
    (hch : ∀ b ∈ ch, (b ∈ X.ex ∨ X.s₀.heap.objs.size ≤ b) ∧ b ≠ X.env.locals ∧ (∀ x c, X.env.cells.lookup x = some c → c ≠ b) ∧ ∀ p ∈ X.pn ++ pins, p.1 ≠ b) :
    Inv X pins σ H' { s with heap := h', gens := g', drawn := d', toks := t' } := by
  obtain ⟨m, ⟨o, es, ep, ho, r⟩, _⟩ := id I.loc
  obtain ⟨sl, hL⟩ := u.any ho I.free fun z => (hch _ z).2.1 rfl
  exact I.step (ch := ch) hch (fun b o hL hb hc e n => u.keep b o e n (fun z => (List.mem_cons.mp (I.stkSub b z)).elim hL hb) hc) (fun b o _ _ hc e n => u.any e n hc) (fun b o hc e n => u.free b o e n hc) (fun b o hc e => u.there b o e hc) u.tups u.frzs u.tbls (fun m' hm => by
    obtain ⟨o', es', ep', ho', r'⟩ := hm
    rw [ho] at ho'; cases ho'
    exact ⟨_, es', ep', hL, r'⟩) hok hg
theorem Inv.turned {t' : Nat} {it : Addr} (I : Inv X pins σ H s) (k : ∀ b o, b ≠ it → s.heap.get? b = some o → h'.get? b = some o) (hn : H it = none) (hL : it ≠ X.env.locals)
    (h1 : it ∈ X.ex ∨ X.s₀.heap.objs.size ≤ it) (h2 : ∀ x c, X.env.cells.lookup x = some c → c ≠ it) (h3 : ∀ p ∈ X.pn ++ pins, p.1 ≠ it) : Inv X pins σ H { s with heap := h', toks := t' } := by
  have nit : ∀ b u, H b = some u → b ≠ it := fun b u e z => by rw [z, hn] at e; cases e
  refine I.step (g' := s.gens) (d' := s.drawn) (ch := [it]) (fun b hb => ?_) (fun b o _ _ hc e _ => k b o (fun z => hc (by simp [z])) e) (fun b o _ _ hc e _ => ⟨o.slots, k b o (fun z => hc (by simp [z])) e⟩) (fun _ _ _ _ n => n)
    (fun b o hc e => ⟨o, k b o (fun z => hc (by simp [z])) e⟩) (fun _ _ e => e) (fun _ _ _ e => e) (fun b ps e => ⟨#[], by rw [e]; simp⟩) (fun m hm => ?_) (fun b u e => ?_) I.bare
  · have e : b = it := by simpa using hb
    subst e
    exact ⟨h1, hL, h2, h3⟩
  · obtain ⟨o, es, ep, ho, r⟩ := hm
    exact ⟨o, es, ep, k _ o (Ne.symm hL) ho, r⟩
  · refine (I.hok b u e).stay (fun c v hc q => k c v ?_ q) (fun _ q => q) fun _ _ q => q
    rcases hc with z | z
    · rw [z]; exact nit b u e
    · exact nit c _ z
theorem Inv.tok (I : Inv X pins σ H s) (t : Nat) : Inv X pins σ H { s with toks := t } := I.un (h' := s.heap) (t' := t) Un.refl I.hok
theorem Inv.kept {t' : Nat} (I : Inv X pins σ H s) (k : ∀ b u, s.heap.get? b = some u → h'.get? b = some u) : Inv X pins σ H { s with heap := h', toks := t' } := I.un (Un.kept k) (I.hok.kept k)
theorem Inv.laid {a : Addr} {o : HO} {t' : Nat} (I : Inv X pins σ H s) (k : ∀ b u, s.heap.get? b = some u → h'.get? b = some u) (hp : s.heap.objs.size ≤ a) (new : ObjOk X.prog X.w (upd H a o) h' a o) :
    Inv X pins σ (upd H a o) { s with heap := h', toks := t' } := I.un (Un.laid k hp (I.hok.fresh hp)) (I.hok.laid k hp new)
theorem Inv.write {x e : Addr} {o : HO} {t' : Nat} (I : Inv X pins σ H s) (mu : Mut (H x)) (he : e = x ∨ H e = some (.own x)) (k : ∀ b u, b ≠ e → s.heap.get? b = some u → h'.get? b = some u) (heo : ∃ u, h'.get? e = some u)
    (new : ObjOk X.prog X.w (upd H x o) h' x o) : Inv X pins σ (upd H x o) { s with heap := h', toks := t' } := I.un (Un.write mu he k heo) (I.hok.write mu he k heo new)
theorem Inv.pins_of {pins' : List (Addr × Obj)} (I : Inv X pins σ H s) (h : ∀ p ∈ pins', s.heap.get? p.1 = some p.2 ∧ H p.1 = none ∧ p.1 ≠ X.env.locals ∧ p.1 ∉ X.fs ∧ ∀ v, p.2.data ≠ .cell v) : Inv X pins' σ H s :=
  ⟨I.ok, I.os, I.bare, I.base, I.loc, I.cell, I.free, I.freeC, fun p hp => (List.mem_append.mp hp).elim (fun z => I.pin p (List.mem_append_left _ z)) (h p), I.hok, I.len⟩
theorem nodup_ix {N : List Str} (hN : N.Nodup) {i j : Nat} {x : Str} (a : N[i]? = some x) (b : N[j]? = some x) : i = j := by
  obtain ⟨h1, e1⟩ := List.getElem?_eq_some_iff.mp a
  obtain ⟨h2, e2⟩ := List.getElem?_eq_some_iff.mp b
  exact (List.getElem_inj hN).mp (e1.trans e2.symm)
theorem store_ok2 {M : Model} {A : Around} {E : Value → Shared → Prop} {i : Nat} {x : Str} {v : V} {u : Value} {Q : Unit → Shared → Prop} (I : Inv X pins σ H s) (hN : X.N.Nodup) (hi : X.N[i]? = some x) (hx : Loc X.env.scope x) (r : RelV v u)
    (h : ∀ s', Inv X pins (σ.set i (some v)) H s' → (∃ a, Heap.SameBut a s.heap s'.heap ∧ (a = X.env.locals ∨ X.env.cells.lookup x = some a)) → Q () s') (hf : X.fn x = true ∨ X.env.scope.names.lookup x = some .local := by first | exact .inl rfl | exact .inr rfl | assumption) : wpAny M A (storeName X.env x u) Q E s := by
  obtain ⟨m, hn, hl⟩ := id I.loc
  have hcls : (X.env.scope.kind == .class || (X.env.scope.kind == .module && X.env.locals != X.env.globals)) = false := by rw [I.ok.kind]; rfl
  have hiσ : i < σ.length := by rw [I.len]; exact (List.getElem?_eq_some_iff.mp hi).1
  have cne := I.cne
  have tracked : ∀ {a : Addr} {h' : Heap}, (∃ o, s.heap.get? a = some o ∧ H a = none) → Heap.SameBut a s.heap h' → HOk X.prog X.w H h' := fun {a h'} ha hs b ob e => by
    obtain ⟨_, _, hfree⟩ := ha
    refine (I.hok b ob e).stay (fun c w' hc q => (hs.2 c ?_).trans q) (fun _ q => q) fun _ _ q => q
    rintro rfl
    rcases hc with rfl | hc
    · rw [hfree] at e; cases e
    · rw [hfree] at hc; cases hc
  rcases hx with hk | hk
  · refine wpAny_storeName_local hk hn (fun h' hn' hs => ?_) hcls
    obtain ⟨oL, _, _, hoL, _⟩ := id hn
    refine h _ ⟨I.ok, I.os, I.bare, ⟨fun b o e n hb hx => ?_, fun b o e n hb hx => ?_, I.base.free, fun b o e hx => ?_, I.base.tups, I.base.frzs, I.base.tbls⟩, ⟨_, hn', fun j y v' e1 e2 e3 => ?_⟩, fun y c e => ?_, I.free, I.freeC, fun p hp => ?_, tracked ⟨oL, hoL, I.free⟩ hs, by simpa using I.len⟩ ⟨_, hs, .inl rfl⟩
    · exact (hs.2 b (Nat.ne_of_lt (Nat.lt_of_lt_of_le (Heap.lt_size e) I.ok.above))).trans (I.base.keep b o e n hb hx)
    · obtain ⟨sl, e1⟩ := I.base.slot b o e n hb hx
      exact ⟨sl, (hs.2 b (Nat.ne_of_lt (Nat.lt_of_lt_of_le (Heap.lt_size e) I.ok.above))).trans e1⟩
    · obtain ⟨o', e1⟩ := I.base.there b o e hx
      exact ⟨o', (hs.2 b (Nat.ne_of_lt (Nat.lt_of_lt_of_le (Heap.lt_size e) I.ok.above))).trans e1⟩
    · by_cases hj : j = i
      · subst hj
        rw [hi] at e1; cases e1
        rw [List.getElem?_set_self hiσ] at e2
        cases e2
        exact ⟨u, r, .inl ⟨hk, by simp⟩⟩
      · rw [List.getElem?_set_ne (Ne.symm hj)] at e2
        obtain ⟨u', r', q⟩ := hl j y v' e1 e2 e3
        refine ⟨u', r', ?_⟩
        rcases q with ⟨k, e⟩ | ⟨k, c, e, z⟩
        · refine .inl ⟨k, ?_⟩
          have : y ≠ x := fun e => hj (nodup_ix hN e1 (e ▸ hi))
          simp [this, e]
        · exact .inr ⟨k, c, e, z.sameBut hs (cne y c e)⟩
    · obtain ⟨w', z⟩ := I.cell y c e
      exact ⟨w', z.sameBut hs (cne y c e)⟩
    · obtain ⟨e, n, ne, nf, d⟩ := I.pin p hp
      exact ⟨(hs.2 p.1 ne).trans e, n, ne, nf, d⟩
  · have hfn : X.fn x = true := by
      rcases hf with z | z
      · exact z
      · rw [z] at hk; cases hk
    obtain ⟨c, hc⟩ := I.ok.has x (.inl hk)
    obtain ⟨w', z⟩ := I.cell x c hc
    refine wpAny_storeName_cell I.ok.kind hk hc z (fun h' hc' hs => ?_)
    obtain ⟨oc, hoc, hocd⟩ := id z
    refine h { s with heap := h' } ⟨I.ok, I.os, I.bare, ⟨fun b o e n hb hx => ?_, fun b o e n hb hx => ?_, I.base.free, fun b o e hx => ?_, I.base.tups, I.base.frzs, I.base.tbls⟩, ⟨m, hn.sameBut hs (Ne.symm (cne x c hc)), fun j y v' e1 e2 e3 => ?_⟩, fun y c' e => ?_, I.free, I.freeC, fun p hp => ?_, tracked ⟨oc, hoc, I.freeC x c hc⟩ hs, by simpa using I.len⟩ ⟨c, hs, .inr hc⟩
    · exact (hs.2 b (Nat.ne_of_lt (Nat.lt_of_lt_of_le (Heap.lt_size e) (I.ok.cab x c hfn hc)))).trans (I.base.keep b o e n hb hx)
    · obtain ⟨sl, e1⟩ := I.base.slot b o e n hb hx
      exact ⟨sl, (hs.2 b (Nat.ne_of_lt (Nat.lt_of_lt_of_le (Heap.lt_size e) (I.ok.cab x c hfn hc)))).trans e1⟩
    · obtain ⟨o', e1⟩ := I.base.there b o e hx
      exact ⟨o', (hs.2 b (Nat.ne_of_lt (Nat.lt_of_lt_of_le (Heap.lt_size e) (I.ok.cab x c hfn hc)))).trans e1⟩
    · by_cases hj : j = i
      · subst hj
        rw [hi] at e1; cases e1
        rw [List.getElem?_set_self hiσ] at e2
        cases e2
        exact ⟨u, r, .inr ⟨.inl hk, c, hc, hc'⟩⟩
      · rw [List.getElem?_set_ne (Ne.symm hj)] at e2
        obtain ⟨u', r', q⟩ := hl j y v' e1 e2 e3
        refine ⟨u', r', ?_⟩
        rcases q with q | ⟨k, c', e, z'⟩
        · exact .inl q
        · refine .inr ⟨k, c', e, z'.sameBut hs ?_⟩
          rintro rfl
          exact hj (nodup_ix hN e1 (I.ok.inj _ _ _ e hc ▸ hi))
    · by_cases hcc : c' = c
      · subst hcc; exact ⟨_, hc'⟩
      · obtain ⟨w2, z2⟩ := I.cell y c' e
        exact ⟨w2, z2.sameBut hs hcc⟩
    · obtain ⟨e, n, ne, nf, d⟩ := I.pin p hp
      refine ⟨(hs.2 p.1 ?_).trans e, n, ne, nf, d⟩
      intro q
      rw [q, hoc] at e
      have q' : oc = p.2 := Option.some.inj e
      exact d w' (by rw [← q']; exact hocd)
theorem store_ok {M : Model} {A : Around} {E : Value → Shared → Prop} {i : Nat} {x : Str} {v : V} {u : Value} {Q : Unit → Shared → Prop} (I : Inv X pins σ H s) (hN : X.N.Nodup) (hi : X.N[i]? = some x) (hx : Loc X.env.scope x) (r : RelV v u)
    (h : ∀ s', Inv X pins (σ.set i (some v)) H s' → Q () s') (hf : X.fn x = true ∨ X.env.scope.names.lookup x = some .local := by first | exact .inl rfl | exact .inr rfl | assumption) : wpAny M A (storeName X.env x u) Q E s :=
  store_ok2 I hN hi hx r (fun s' I' _ => h s' I') hf
theorem Inv.call' {s' : Shared} {ch : List Addr} (I : Inv X pins σ H s) (ho : s'.os = s.os) (u : Un (frs X.stack) ch H H' s.heap s'.heap) (hok : HOk X.prog X.w H' s'.heap) (hg : AllBare s'.gens)
    (hch : ∀ b ∈ ch, (b ∈ X.ex ∨ X.s₀.heap.objs.size ≤ b) ∧ b ≠ X.env.locals ∧ (∀ x c, X.env.cells.lookup x = some c → c ≠ b) ∧ ∀ p ∈ X.pn ++ pins, p.1 ≠ b) : Inv X pins σ H' s' := by
  obtain ⟨h', g', d', t', o'⟩ := s'
  have e : o' = s.os := ho
  subst e
  exact I.call (g' := g') (t' := t') (d' := d') u hok hg hch
end
abbrev XK := Value → Option Addr → Hp → Prop
abbrev St := List (Option V)
abbrev VK := V → Hp → Prop
abbrev TE := St → Hp → VK → Prop
abbrev TT := St → Hp → (Bool → Hp → Prop) → Prop
abbrev TA := St → Hp → (List V → Hp → Prop) → Prop
structure Ends where
  nx : St → Hp → Prop
  rt : VK
  bk : St → Hp → Prop := fun _ _ => False
  ct : St → Hp → Prop := fun _ _ => False
abbrev TS := Ends → St → Hp → Prop
def EP (X : Cx) (pins : List (Addr × Obj)) (σ : St) (Q : VK) (u : Value) (s' : Shared) : Prop := ∃ v H', Inv X pins σ H' s' ∧ RelV v u ∧ Q v H'
def TP (X : Cx) (pins : List (Addr × Obj)) (σ : St) (Q : Bool → Hp → Prop) (b : Bool) (s' : Shared) : Prop := ∃ H', Inv X pins σ H' s' ∧ Q b H'
def AP (X : Cx) (pins : List (Addr × Obj)) (σ : St) (Q : List V → Hp → Prop) (us : List Value) (s' : Shared) : Prop := ∃ vs H', Inv X pins σ H' s' ∧ Vals vs us ∧ Q vs H'
def SP (X : Cx) (pins : List (Addr × Obj)) (D : Ends) (f : Flow) (s' : Shared) : Prop :=
  match f with
  | .next => ∃ σ' H', Inv X pins σ' H' s' ∧ D.nx σ' H'
  | .brk => ∃ σ' H', Inv X pins σ' H' s' ∧ D.bk σ' H'
  | .cont => ∃ σ' H', Inv X pins σ' H' s' ∧ D.ct σ' H'
  | .ret u => ∃ v σ' H', Inv X pins σ' H' s' ∧ RelV v u ∧ D.rt v H'
def PE (X : Cx) (e : Expr) (t : TE) : Prop :=
  ∀ (pins : List (Addr × Obj)) (s : Shared) (σ : St) (H : Hp) (Q : VK), Inv X pins σ H s → t σ H Q → wpAny (model X.prog X.w) X.A (eval e X.env) (EP X pins σ Q) X.xe s
def PT (X : Cx) (e : Expr) (t : TT) : Prop :=
  ∀ (pins : List (Addr × Obj)) (s : Shared) (σ : St) (H : Hp) (Q : Bool → Hp → Prop), Inv X pins σ H s → t σ H Q → wpAny (model X.prog X.w) X.A (isTrue e X.env (eval e X.env)) (TP X pins σ Q) X.xe s
def PW (X : Cx) (e : Expr) (t : TT) : Prop :=
  ∀ (whole : Sem Value) (pins : List (Addr × Obj)) (s : Shared) (σ : St) (H : Hp) (Q : Bool → Hp → Prop), Inv X pins σ H s → t σ H Q → wpAny (model X.prog X.w) X.A (isTrue e X.env whole) (TP X pins σ Q) X.xe s
theorem PW.pt {X : Cx} {e : Expr} {t : TT} (h : PW X e t) : PT X e t := h _
def PA (X : Cx) (es : List Expr) (t : TA) : Prop :=
  ∀ (pos : Pos) (pins : List (Addr × Obj)) (s : Shared) (σ : St) (H : Hp) (Q : List V → Hp → Prop), Inv X pins σ H s → t σ H Q → wpAny (model X.prog X.w) X.A (spliced (backTo pos (starEach es X.env))) (AP X pins σ Q) X.xe s
def PS (X : Cx) (st : Stmt) (t : TS) : Prop :=
  ∀ (pins : List (Addr × Obj)) (s : Shared) (σ : St) (H : Hp) (D : Ends), Inv X pins σ H s → t D σ H → wpAny (model X.prog X.w) X.A (exec st X.env) (SP X pins D) X.xe s
def PSs (X : Cx) (st : List Stmt) (t : TS) : Prop :=
  ∀ (pins : List (Addr × Obj)) (s : Shared) (σ : St) (H : Hp) (D : Ends), Inv X pins σ H s → t D σ H → wpAny (model X.prog X.w) X.A (execs st X.env) (SP X pins D) X.xe s
theorem thn {α : Type} {t : Sem α} {Q Q' : α → Shared → Prop} {M : Model} {A : Around} {E : Value → Shared → Prop} {s : Shared} (h : wpAny M A t Q E s) (hQ : ∀ a s, Q a s → Q' a s) : wpAny M A t Q' E s := wpAny_mono h hQ fun _ _ x => x
end L2
namespace L2
open PySem PySem.Spec PyProof.Rows
section
variable {X : Cx}
def tVar (i : Nat) : TE := fun σ H Q => ∃ v, σ[i]? = some (some v) ∧ Q v H
def tC (v : V) : TE := fun _ H Q => Q v H
theorem pe_var {i : Nat} {x : Str} {pos : Pos} (hN : X.N[i]? = some x) (hv : Vis X.env.scope x) (hd : (x == ("__debug__" : Str)) = false := by decide) (hcd : (x == ("__classdict__" : Str)) = false := by decide) : PE X (.Name x pos) (tVar i) := by
  intro pins s σ H Q I h
  obtain ⟨v, e, h⟩ := h
  obtain ⟨m, hn, hl⟩ := I.loc
  obtain ⟨u, r, l⟩ := hl i x v hN e hv
  have fin : EP X pins σ Q u s := ⟨v, H, I, r, h⟩
  rcases l with ⟨hk, hm⟩ | ⟨hk, c, hc, hcell⟩
  · exact wpAny_Name (wpAny_loadName_local I.ok.kind hk hn hm fin) hd
  · rcases hk with hk | hk
    · exact wpAny_Name (wpAny_loadName_cell I.ok.kind hk hc hcell fin) hd
    · exact wpAny_Name (wpAny_loadName_free I.ok.kind hk hc hcell fin hcd) hd
theorem pe_int {i j pos} : PE X (.Constant (.int i) j pos) (tC (.int i)) := fun _ _ _ H _ I h => wpAny_Constant_int ⟨.int i, H, I.tok _, ⟨_, rfl⟩, h⟩
theorem pe_bl {b j pos} : PE X (.Constant (.bool b) j pos) (tC (.bl b)) := fun _ _ _ H _ I h => Constant_bool ⟨.bl b, H, I, rfl, h⟩
theorem pe_str {x j pos} : PE X (.Constant (.str x) j pos) (tC (.str x)) := fun _ _ _ H _ I h => Calls.Constant_str ⟨.str x, H, I.tok _, ⟨_, rfl⟩, h⟩
def Gl (X : Cx) (x : Str) : Prop := X.env.kindOf x = some .globalImplicit
theorem ld_glob {E : Value → Shared → Prop} {pins : List (Addr × Obj)} {s : Shared} {σ : St} {H : Hp} {x : Str} {u : Value} {pos : Pos} {Q : Value → Shared → Prop} (I : Inv X pins σ H s) (hg : Gl X x) (hm : X.mg x = some u) (h : Q u s)
    (hd : (x == ("__debug__" : Str)) = false := by decide) : wpAny (model X.prog X.w) X.A (eval (.Name x pos) X.env) Q E s :=
  Calls.Name_function_global I.ok.kind hg (Calls.loadGlobal_global (by rw [I.ok.glob]; exact I.mod.glob.keeps I.bk) hm h) hd
theorem ld_blt {E : Value → Shared → Prop} {pins : List (Addr × Obj)} {s : Shared} {σ : St} {H : Hp} {x : Str} {u : Value} {pos : Pos} {Q : Value → Shared → Prop} (I : Inv X pins σ H s) (hg : Gl X x) (hm : X.mg x = none) (hv : bootBuiltins x = some u) (h : Q u s)
    (hn : x ≠ "__name__" := by decide) (hd : (x == ("__debug__" : Str)) = false := by decide) : wpAny (model X.prog X.w) X.A (eval (.Name x pos) X.env) Q E s := by
  obtain ⟨mb, h1, h2⟩ := I.mod.blt
  exact Calls.Name_function_global I.ok.kind hg (Calls.loadGlobal_builtin (by rw [I.ok.glob]; exact I.mod.glob.keeps I.bk) hm (by rw [I.ok.blt]; exact h1.keeps I.bk) ((h2 x hn).trans hv) h) hd
theorem pe_glob {x : Str} {v : V} {u : Value} {pos : Pos} (hg : Gl X x) (hm : X.mg x = some u) (r : RelV v u) (hd : (x == ("__debug__" : Str)) = false := by decide) : PE X (.Name x pos) (tC v) :=
  fun _ _ _ H _ I h => ld_glob I hg hm ⟨v, H, I, r, h⟩ hd
theorem pe_bltn {x : Str} {v : V} {u : Value} {pos : Pos} (hg : Gl X x) (hm : X.mg x = none) (hv : bootBuiltins x = some u) (r : RelV v u) (hn : x ≠ "__name__" := by decide) (hd : (x == ("__debug__" : Str)) = false := by decide) : PE X (.Name x pos) (tC v) :=
  fun _ _ _ H _ I h => ld_blt I hg hm hv ⟨v, H, I, r, h⟩ hn hd
variable {a b : Expr} {ta tb : TE} {pos : Pos}
def tB (t : TE) : TT := fun σ H Q => t σ H fun x H1 => ∃ c, x = .bl c ∧ Q c H1
variable {tA tB' : TT} {rest : List Expr}
def tOr (t u : TT) : TT := fun σ H Q => t σ H fun c H1 => if c = true then Q true H1 else u σ H1 Q
def tNot (t : TT) : TT := fun σ H Q => t σ H fun c H1 => Q (!c) H1
theorem pw_or1 (ha : PT X a tA) : PW X (.BoolOp .Or [a] pos) tA := by
  intro wh pins s σ H Q I h
  refine isTrue_or (thn (ha pins s σ H Q I h) fun c s1 e => ?_)
  cases c with
  | false => exact isTrue_or_nil e
  | true => exact e
theorem pw_or (ha : PT X a tA) (hb : PW X (.BoolOp .Or (b :: rest) pos) tB') : PW X (.BoolOp .Or (a :: b :: rest) pos) (tOr tA tB') := by
  intro wh pins s σ H Q I h
  refine isTrue_or (thn (ha pins s σ H _ I h) fun c s1 ⟨H1, I1, q1⟩ => ?_)
  cases c with
  | true => exact ⟨H1, I1, q1⟩
  | false => exact hb wh pins s1 σ H1 Q I1 q1
theorem pt_not (ha : PT X a tA) : PT X (.UnaryOp .Not a pos) (tNot tA) := by
  intro pins s σ H Q I h
  exact isTrue_not (ha pins s σ H (fun c H1 => Q (!c) H1) I h)
def tAndV (ta tb : TE) : TE := fun σ H Q => ta σ H fun x H1 => ∃ c, x = .bl c ∧ if c = true then tb σ H1 Q else Q (.bl false) H1
theorem pe_and (ha : PE X a ta) (hb : PE X (.BoolOp .And (b :: rest) pos) tb) : PE X (.BoolOp .And (a :: b :: rest) pos) (tAndV ta tb) := by
  intro pins s σ H Q I h
  refine BoolOp_and (thn (ha pins s σ H _ I h) fun v s1 ⟨x, H1, I1, r1, q1⟩ => ?_)
  obtain ⟨c, rfl, q1⟩ := q1
  cases r1
  refine wpAny_truthy_bool ?_
  cases c with
  | true => exact hb pins s1 σ H1 Q I1 q1
  | false => exact ⟨.bl false, H1, I1, rfl, q1⟩
def tIf (t : TT) (ta tb : TE) : TE := fun σ H Q => t σ H fun c H1 => if c = true then ta σ H1 Q else tb σ H1 Q
theorem pe_ifExp {c : Expr} (hc : PT X c tA) (ha : PE X a ta) (hb : PE X b tb) : PE X (.IfExp c a b pos) (tIf tA ta tb) := by
  intro pins s σ H Q I h
  refine wpAny_IfExp (thn (hc pins s σ H _ I h) fun d s1 ⟨H1, I1, q1⟩ => ?_)
  cases d with
  | true => exact ha pins s1 σ H1 Q I1 q1
  | false => exact hb pins s1 σ H1 Q I1 q1
end
end L2
namespace L2
open PySem PySem.Spec PyProof.Rows
def SqL (K : PySem.W.Frag) (H : Hp) (a : Addr) (xs : List V) : Prop :=
  Rd H a (.lst xs) ∨
    ∃ (o : Obj) (its : Array Value) (n : Nat), K.lookup a = some o ∧ o.cls = .type "list" ∧ o.dict = none ∧ o.data = .seq its n ∧ its.size ≤ sizeLine ∧ Vals xs its.toList
def SqT (K : PySem.W.Frag) (H : Hp) (a : Addr) (xs : List V) : Prop :=
  Rd H a (.tup xs) ∨
    ∃ (o : Obj) (its : Array Value) (n : Nat), K.lookup a = some o ∧ o.cls = .type "tuple" ∧ o.data = .seq its n ∧ its.size ≤ sizeLine ∧ Vals xs its.toList
def absV : Value → Option V
  | .none => some .non
  | .bool b => some (.bl b)
  | .int i _ => some (.int i)
  | .str x _ => some (.str x)
  | .bytes b _ => some (.byt b)
  | .float b _ => some (.flt b)
  | .ref a => some (.ref a)
  | .type n => some (.ty n)
  | _ => none
theorem RelV.abs {x : V} {u : Value} (r : RelV x u) : absV u = some x := by
  cases x with
  | non => cases r; rfl
  | bl _ => cases r; rfl
  | int _ => obtain ⟨t, rfl⟩ := r; rfl
  | str _ => obtain ⟨t, rfl⟩ := r; rfl
  | byt _ => obtain ⟨t, rfl⟩ := r; rfl
  | flt _ => obtain ⟨t, rfl⟩ := r; rfl
  | ref _ => cases r; rfl
  | ty _ => cases r; rfl
theorem RelV.inj {x y : V} {u : Value} (r : RelV x u) (q : RelV y u) : x = y := Option.some.inj (r.abs.symm.trans q.abs)
theorem Vals.inj : ∀ {xs ys : List V} {us : List Value}, Vals xs us → Vals ys us → xs = ys
  | _, _, _, .nil, .nil => rfl
  | _, _, _, .cons r t, .cons r' t' => by rw [r.inj r', Vals.inj t t']
section
variable {X : Cx} {pins : List (Addr × Obj)} {σ : St} {H : Hp} {s : Shared} {a : Addr} {xs ys : List V}
theorem SqL.of {K : PySem.W.Frag} (h : H a = some (.lst xs)) : SqL K H a xs := .inl (.inl h)
theorem SqT.of {K : PySem.W.Frag} (h : H a = some (.tup xs)) : SqT K H a xs := .inl (.inl h)
theorem Inv.list (I : Inv X pins σ H s) (h : SqL X.K H a xs) : ∃ its : List Value, Vals xs its ∧ PlainL s.heap a its.toArray ∧ xs.length ≤ sizeLine := by
  rcases h with h | ⟨o, its, n, hk, hc, hd, hs, hz, r⟩
  · obtain ⟨z, its, n, r, e⟩ := h.ok I.hok
    exact ⟨its, r, ⟨_, n, e, rfl, rfl, rfl⟩, z⟩
  · refine ⟨its.toList, r, ⟨o, n, I.kIn a o hk, hc, hd, by simpa using hs⟩, ?_⟩
    have e := r.length
    simp only [Array.length_toList] at e
    omega
theorem Inv.tuple (I : Inv X pins σ H s) (h : SqT X.K H a xs) : ∃ its : List Value, Vals xs its ∧ IsTup s.heap a its.toArray ∧ xs.length ≤ sizeLine := by
  rcases h with h | ⟨o, its, n, hk, hc, hs, hz, r⟩
  · obtain ⟨z, its, r, p⟩ := h.ok I.hok
    exact ⟨its, r, p, z⟩
  · refine ⟨its.toList, r, ⟨o, I.kIn a o hk, hc, n, by simpa using hs⟩, ?_⟩
    have e := r.length
    simp only [Array.length_toList] at e
    omega
end
abbrev Cx.wish (X : Cx) (E : Value → Shared → Prop) : Cx := { X with xe := E }
abbrev Cx.nox (X : Cx) : Cx := X.wish fun _ _ => False
theorem Cx.Ok.wish {X : Cx} (ok : X.Ok) (E : Value → Shared → Prop) : (X.wish E).Ok :=
  ⟨ok.mod, ok.kind, ok.glob, ok.blt, ok.above, ok.inj, ok.has, ok.cab, ok.hd, ok.frames, ok.stk, ok.exf, ok.bs, ok.bsz, ok.noex, ok.exfs, ok.funs, ok.frf⟩
theorem Cx.Ok.unwish {X : Cx} {E : Value → Shared → Prop} (ok : (X.wish E).Ok) : X.Ok :=
  ⟨ok.mod, ok.kind, ok.glob, ok.blt, ok.above, ok.inj, ok.has, ok.cab, ok.hd, ok.frames, ok.stk, ok.exf, ok.bs, ok.bsz, ok.noex, ok.exfs, ok.funs, ok.frf⟩
section
variable {X : Cx} {pins : List (Addr × Obj)} {σ : St} {H : Hp} {s : Shared} {E : Value → Shared → Prop}
theorem Inv.wish (I : Inv X pins σ H s) (E : Value → Shared → Prop) : Inv (X.wish E) pins σ H s := ⟨I.ok.wish E, I.os, I.bare, I.base, I.loc, I.cell, I.free, I.freeC, I.pin, I.hok, I.len⟩
theorem Inv.unwish (I : Inv (X.wish E) pins σ H s) : Inv X pins σ H s := ⟨I.ok.unwish, I.os, I.bare, I.base, I.loc, I.cell, I.free, I.freeC, I.pin, I.hok, I.len⟩
theorem SP.unwish {D : Ends} {f : Flow} {s' : Shared} (h : SP (X.wish E) pins D f s') : SP X pins D f s' := by
  cases f with
  | next => obtain ⟨σ', H', I, q⟩ := h; exact ⟨σ', H', I.unwish, q⟩
  | brk => obtain ⟨σ', H', I, q⟩ := h; exact ⟨σ', H', I.unwish, q⟩
  | cont => obtain ⟨σ', H', I, q⟩ := h; exact ⟨σ', H', I.unwish, q⟩
  | ret u => obtain ⟨v, σ', H', I, r, q⟩ := h; exact ⟨v, σ', H', I.unwish, r, q⟩
theorem PE.nox {e : Expr} {t : TE} (h : PE X.nox e t) : PE X e t := fun pins s σ H Q I hw =>
  wpAny_mono (h pins s σ H Q (I.wish _) hw) (fun _ _ ⟨v, H', I', r, q⟩ => ⟨v, H', I'.unwish, r, q⟩) fun _ _ z => False.elim z
theorem PT.nox {e : Expr} {t : TT} (h : PT X.nox e t) : PT X e t := fun pins s σ H Q I hw =>
  wpAny_mono (h pins s σ H Q (I.wish _) hw) (fun _ _ ⟨H', I', q⟩ => ⟨H', I'.unwish, q⟩) fun _ _ z => False.elim z
theorem PSs.nox {st : List Stmt} {t : TS} (h : PSs X.nox st t) : PSs X st t := fun pins s σ H D I hw =>
  wpAny_mono (h pins s σ H D (I.wish _) hw) (fun _ _ q => q.unwish) fun _ _ z => False.elim z
end
section
variable {X : Cx} {st : Stmt} {rest : List Stmt} {t u : TS} {e : Expr} {te : TE} {pos : Pos}
def tNext : TS := fun D σ H => D.nx σ H
def tSeq (t u : TS) : TS := fun D σ H => t { D with nx := u D } σ H
theorem pss_nil : PSs X [] tNext := fun _ _ σ H _ I h => wpAny_execs_nil ⟨σ, H, I, h⟩
theorem pss_cons (h1 : PS X st t) (h2 : PSs X rest u) : PSs X (st :: rest) (tSeq t u) := by
  intro pins s σ H D I h
  refine wpAny_execs_cons (thn (h1 pins s σ H { D with nx := u D } I h) fun f s1 q => ?_)
  cases f with
  | next =>
    obtain ⟨σ', H', I', q⟩ := q
    exact h2 pins s1 σ' H' D I' q
  | ret v => exact q
  | brk => exact q
  | cont => exact q
theorem pss_one (h1 : PS X st t) : PSs X [st] t := by
  intro pins s σ H D I h
  refine wpAny_execs_cons (thn (h1 pins s σ H D I h) fun f s1 q => ?_)
  cases f with
  | next => exact wpAny_execs_nil q
  | ret v => exact q
  | brk => exact q
  | cont => exact q
theorem Inv.quiet {pins : List (Addr × Obj)} {σ : St} {H : Hp} {s : Shared} (I : Inv X pins σ H s) : interactive X.env = false := by simp [interactive, I.ok.kind]
def tRet (te : TE) : TS := fun D σ H => te σ H D.rt
theorem ps_ret (he : PE X e te) : PS X (.Return (some e) pos) (tRet te) := by
  intro pins s σ H D I h
  exact wpAny_Return_some (thn (he pins s σ H _ I h) fun v s1 ⟨x, H1, I1, r1, q1⟩ => ⟨x, σ, H1, I1, r1, q1⟩)
def tIfS (c : TT) (t u : TS) : TS := fun D σ H => c σ H fun b H1 => if b = true then t D σ H1 else u D σ H1
theorem ps_if {c : Expr} {a b : List Stmt} {tc : TT} (hc : PT X c tc) (ha : PSs X a t) (hb : PSs X b u) : PS X (.If c a b pos) (tIfS tc t u) := by
  intro pins s σ H D I h
  refine wpAny_If (thn (hc pins s σ H _ I h) fun d s1 ⟨H1, I1, q1⟩ => ?_)
  cases d with
  | true => exact ha pins s1 σ H1 D I1 q1
  | false => exact hb pins s1 σ H1 D I1 q1
end
abbrev TG := V → St → Hp → (St → Hp → Prop) → Prop
def PG (X : Cx) (target : Expr) (t : TG) : Prop :=
  ∀ (pins : List (Addr × Obj)) (s : Shared) (σ : St) (H : Hp) (v : V) (u : Value) (Q : St → Hp → Prop), Inv X pins σ H s → RelV v u → t v σ H Q →
    wpAny (model X.prog X.w) X.A (assign target X.env u) (fun _ s' => ∃ σ' H', Inv X pins σ' H' s' ∧ Q σ' H') X.xe s
section
variable {X : Cx} {pos : Pos}
def gName (i : Nat) : TG := fun v σ H Q => Q (σ.set i (some v)) H
theorem pg_name {i : Nat} {x : Str} (hN : X.N.Nodup) (hi : X.N[i]? = some x) (hx : Loc X.env.scope x) (hf : X.fn x = true ∨ X.env.scope.names.lookup x = some .local := by first | exact .inl rfl | exact .inr rfl | assumption) : PG X (.Name x pos) (gName i) := by
  intro pins s σ H v u Q I r h
  exact wpAny_assign_Name (store_ok I hN hi hx r (fun s' I' => ⟨_, H, I', h⟩) hf)
def tAsg (te : TE) (g : TG) : TS := fun D σ H => te σ H fun x H1 => g x σ H1 D.nx
theorem ps_set {i : Nat} {x : Str} {e : Expr} {te : TE} {pos' : Pos} (hN : X.N.Nodup) (hi : X.N[i]? = some x) (hx : Loc X.env.scope x) (he : PE X e te) (hs : swapsWith e (some (.Name x pos')) pos.line X.env = pure false := by rfl) (hf : X.fn x = true ∨ X.env.scope.names.lookup x = some .local := by first | exact .inl rfl | exact .inr rfl | assumption) :
    PS X (.Assign [.Name x pos'] e pos) (tAsg te (gName i)) := by
  intro pins s σ H D I h
  refine wpAny_Assign_Name (thn (he pins s σ H _ I h) fun v s1 ⟨y, H1, I1, r1, q1⟩ => ?_) hs
  exact store_ok I1 hN hi hx r1 (fun s2 I2 => ⟨_, H1, I2, q1⟩) hf
end
section
variable {X : Cx} {pos : Pos}
end
structure It where
  go : Nat → Hp → Prop
  yld : Nat → Hp → V → Hp → Prop
  stop : Nat → Hp → Prop
def FpOk (X : Cx) (pins : List (Addr × Obj)) (H : Hp) (b : Addr) : Prop :=
  H b = none ∧ b ≠ X.env.locals ∧ b ∉ X.fs ∧ (b ∈ X.ex ∨ X.s₀.heap.objs.size ≤ b) ∧ (∀ x c, X.env.cells.lookup x = some c → c ≠ b) ∧ ∀ p ∈ X.pn ++ pins, p.1 ≠ b
theorem Inv.fpOk {X : Cx} {pins : List (Addr × Obj)} {σ : St} {H H' : Hp} {s : Shared} {b : Addr} (I : Inv X pins σ H s) (hb : s.heap.objs.size ≤ b) (hn : H' b = none) : FpOk X pins H' b := by
  refine ⟨hn, Nat.ne_of_gt (Nat.lt_of_lt_of_le I.lt hb), I.nofs hb, .inr (Nat.le_trans I.sz hb), fun x c e z => ?_, fun p hp z => ?_⟩
  · obtain ⟨v, q⟩ := I.cell x c e
    exact absurd (Nat.lt_of_lt_of_le q.lt (by rw [z]; exact hb)) (Nat.lt_irrefl _)
  · exact absurd (Nat.lt_of_lt_of_le (Heap.lt_size (I.pin p hp).1) (by rw [z]; exact hb)) (Nat.lt_irrefl _)
structure Turn (P : Program) (w : World) (K : PySem.W.Frag) (tg : Expr) (J : It) (fp : List Addr) (it : Addr) (tn : Nat → Heap → Prop) : Prop where
  mem : it ∈ fp
  obj : ∀ i h, tn i h → ∀ b ∈ fp, ∃ o, h.get? b = some o ∧ ∀ v, o.data ≠ .cell v
  keep : ∀ i h h', tn i h → (∀ b ∈ fp, ∀ o, h.get? b = some o → h'.get? b = some o) → tn i h'
  item : ∀ (X : Cx), X.prog = P → X.w = w → X.K = K → X.calm = true → ∀ (i : Nat) (pins : List (Addr × Obj)) (s : Shared) (σ : St) (H : Hp) (E : Value → Shared → Prop), Inv X pins σ H s → (∀ b ∈ fp, FpOk X pins H b) → tn i s.heap → J.go i H →
    wpAny (model P w) X.A (pyNext (.ref it)) (fun r s1 => ∃ u, r = some u ∧
      wpAny (model P w) X.A (letOwnedTupleGo tg (.ref it) u) (fun _ s2 => ∃ x H', Inv X pins σ H' s2 ∧ RelV x u ∧ J.yld i H x H' ∧ tn (i + 1) s2.heap ∧ ∀ b ∈ fp, H' b = none) E s1) E s
  done : ∀ (X : Cx), X.prog = P → X.w = w → X.K = K → X.calm = true → ∀ (i : Nat) (pins : List (Addr × Obj)) (s : Shared) (σ : St) (H : Hp) (E : Value → Shared → Prop), Inv X pins σ H s → (∀ b ∈ fp, FpOk X pins H b) → tn i s.heap → J.stop i H →
    wpAny (model P w) X.A (pyNext (.ref it)) (fun r s1 => r = none ∧ Inv X pins σ H s1) E s
  self : ∀ (A : Around) (i : Nat) (s : Shared) (Q : Value → Shared → Prop) (E : Value → Shared → Prop), tn i s.heap → Q (.ref it) s → wpAny (model P w) A (pyIter (.ref it)) Q E s
abbrev TI := St → Hp → (It → Hp → Prop) → Prop
def PIE (X : Cx) (pins : List (Addr × Obj)) (σ : St) (tg : Expr) (R : It → Hp → Prop) (itv : Value) (s2 : Shared) : Prop :=
  ∃ (it : Addr) (fp : List Addr) (tn : Nat → Heap → Prop) (J : It) (H' : Hp), itv = .ref it ∧ Inv X pins σ H' s2 ∧ Turn X.prog X.w X.K tg J fp it tn ∧ tn 0 s2.heap ∧ (∀ b ∈ fp, FpOk X pins H' b) ∧ R J H'
def PI (X : Cx) (tg iter : Expr) (wi : TI) : Prop :=
  ∀ (pins : List (Addr × Obj)) (s : Shared) (σ : St) (H : Hp) (R : It → Hp → Prop), Inv X pins σ H s → wi σ H R →
    wpAny (model X.prog X.w) X.A (eval iter X.env) (fun v s1 => wpAny (model X.prog X.w) X.A (pyIter v) (PIE X pins σ tg R) X.xe s1) X.xe s
theorem go_of {M : Model} {A : Around} {E : Value → Shared → Prop} {s : Shared} {tg : Expr} {it : Addr} {u : Value} {o : Obj} {n : String} {vs : Array Value} {Q : Unit → Shared → Prop} (ho : s.heap.get? it = some o) (hc : o.cls = .type n) (hd : o.data = .fields vs)
    (hn : ["enumerate", "zip", "dict_itemiterator", "dict_reverseitemiterator", "odict_iterator", "itertools.zip_longest", "itertools.pairwise"].contains n = false) (hQ : Q () s) : wpAny M A (letOwnedTupleGo tg (.ref it) u) Q E s := by
  unfold letOwnedTupleGo
  cases tg <;> first
    | exact wpAny_pure hQ
    | (cases u <;> first
        | exact wpAny_pure hQ
        | (refine wpAny_bind (wpAny_load ho ?_)
           rw [hc, hd]
           show wpAny M A (if (["enumerate", "zip", "dict_itemiterator", "dict_reverseitemiterator", "odict_iterator", "itertools.zip_longest", "itertools.pairwise"].contains n && vs[0]? == some (rawInt _)) = true then _ else _) Q E s
           rw [if_neg (by intro h; rw [hn, Bool.false_and] at h; cases h)]
           exact wpAny_pure hQ))
def Itr (lo : Int) (n : Nat) : It := ⟨fun i _ => i < n, fun i H x H' => H' = H ∧ x = .int (lo + i), fun i _ => n ≤ i⟩
theorem turn_range {P : Program} {w : World} {K : PySem.W.Frag} {tg : Expr} (it : Addr) (lo : Int) (n : Nat) : Turn P w K tg (Itr lo n) [it] it (fun i h => IsRangeIter h it (lo + (i : Nat) * 1) ((n : Int) - (i : Nat)) 1) where
  mem := by simp
  obj := fun i h st b hb => by
    have e : b = it := by simpa using hb
    subst e
    exact ⟨_, st, fun v z => by
      have z' : Data.fields _ = Data.cell v := z
      cases z'⟩
  keep := fun i h h' st k => k it (by simp) _ st
  item := by
    intro X hP hw hK hc i pins s σ H E I hf st hg
    subst hP hw hK
    obtain ⟨f0, f1, f2, f3, f4, f5⟩ := hf it (by simp)
    have W := Walks.range (prog := X.prog) (w := X.w) (I.ok.hd hc) it lo 1 n
    refine W.item i s _ _ hg st fun v h' tk hv st' kk => ?_
    obtain ⟨t, rfl⟩ := hv
    have I1 : Inv X pins σ H { s with heap := h', toks := tk } := I.turned (fun b o hb e => kk b o (by simpa using hb) e) f0 f1 f3 f4 f5
    refine ⟨_, rfl, go_of (s := { s with heap := h', toks := tk }) (n := "range_iterator") st' rfl rfl (by decide) ⟨.int (lo + i), H, I1, ⟨t, ?_⟩, ⟨rfl, rfl⟩, st', fun b hb => (hf b hb).1⟩⟩
    rw [Int.mul_one]
  done := by
    intro X hP hw hK hc i pins s σ H E I hf st hg
    subst hP hw hK
    obtain ⟨f0, f1, f2, f3, f4, f5⟩ := hf it (by simp)
    exact wpAny_pyNext_range_end (I.ok.hd hc) st (by have : n ≤ i := hg; omega) fun h' eb => ⟨rfl, I.turned (t' := s.toks) (fun b o hb e => eb b o hb e) f0 f1 f3 f4 f5⟩
  self := fun _ _ _ _ _ st h => wpAny_pyIter_rangeiter st h
end L2
namespace L2
open PySem PySem.Spec PyProof.Rows
section
variable {X : Cx} {tg : Expr}
theorem range_it {pins : List (Addr × Obj)} {σ : St} {H : Hp} {s : Shared} {R : It → Hp → Prop} {E : Value → Shared → Prop} {lo hi : Int} {t u v : Tok} {tk : Nat} (I : Inv X pins σ H s) (h1 : -(2 ^ 62) ≤ lo) (h2 : lo < 2 ^ 62) (h3 : -(2 ^ 62) ≤ hi) (h4 : hi < 2 ^ 62)
    (q : R (Itr lo (hi - lo).toNat) H) : wpAny (model X.prog X.w) X.A (pyIter (.ref s.heap.objs.size)) (PIE X pins σ tg R) E { s with heap := s.heap.push { cls := .type "range", data := .fields #[.int lo t, .int hi u, .int 1 v] }, toks := tk } := by
  refine wpAny_pyIter_range (IsRange.new ..) (small_one h1 h2 h3 h4) ?_
  have I1 : Inv X pins σ H { s with heap := s.heap.push { cls := .type "range", data := .fields #[.int lo t, .int hi u, .int 1 v] }, toks := tk } := I.kept fun b o e => Heap.get?_push_of_some _ e
  refine ⟨(s.heap.push { cls := .type "range", data := .fields #[.int lo t, .int hi u, .int 1 v] }).objs.size, [(s.heap.push { cls := .type "range", data := .fields #[.int lo t, .int hi u, .int 1 v] }).objs.size], _, _, H, rfl,
    I1.kept (t' := tk) fun b o e => Heap.get?_push_of_some _ e, turn_range _ lo (hi - lo).toNat, ?_, fun b hb => ?_, q⟩
  · have e1 : lo + ((0 : Nat) : Int) * 1 = lo := by simp
    have e2 : (((hi - lo).toNat : Nat) : Int) - ((0 : Nat) : Int) = Builtin.Range.rangeSize lo hi 1 := by rw [rangeSize_one]; split <;> omega
    show IsRangeIter _ _ (lo + ((0 : Nat) : Int) * 1) ((((hi - lo).toNat : Nat) : Int) - ((0 : Nat) : Int)) 1
    rw [e1, e2]
    exact Heap.get?_push_size _ rfl
  · have e : b = (s.heap.push { cls := .type "range", data := .fields #[.int lo t, .int hi u, .int 1 v] }).objs.size := by simpa using hb
    subst e
    exact I1.fpOk (Nat.le_refl _) (I1.hok.fresh (Nat.le_refl _))
def iRng1 (ta : TA) : TI := fun σ H R => ta σ H fun vs H1 => ∃ j : Int, vs = [.int j] ∧ -(2 ^ 62) ≤ j ∧ j < 2 ^ 62 ∧ R (Itr 0 j.toNat) H1
theorem pi_range1 {a : Expr} {ta : TA} {p pos : Pos} (hg : Gl X "range") (hm : X.mg "range" = none) (ha : PA X [a] ta) (hs : starEach [a] X.env = [(false, eval a X.env)] := by rfl) : PI X tg (.Call (.Name "range" p) [a] [] pos) (iRng1 ta) := by
  intro pins s σ H R I h
  refine Call_ (ld_blt I hg hm boot_range (PyProof.Rows.callWith_type1 (thn (ha pos pins s σ H _ I h) fun us s1 ⟨vs, H1, I1, r1, q1⟩ => ?_) hs rfl))
  obtain ⟨j, e, q1, q2, q⟩ := q1
  subst e
  cases r1 with
  | cons r rr =>
    cases rr
    obtain ⟨t, rfl⟩ := r
    exact call_range_1 (range_it I1 (by omega) (by omega) q1 q2 (by simpa using q))
def pinsAt (fp : List Addr) (h : Heap) : List (Addr × Obj) := fp.filterMap fun b => (h.get? b).map fun o => (b, o)
theorem mem_pinsAt {fp : List Addr} {h : Heap} {b : Addr} {o : Obj} (hb : b ∈ fp) (e : h.get? b = some o) : (b, o) ∈ pinsAt fp h := List.mem_filterMap.mpr ⟨b, hb, by rw [e]; rfl⟩
theorem of_pinsAt {fp : List Addr} {h : Heap} {p : Addr × Obj} (hp : p ∈ pinsAt fp h) : p.1 ∈ fp ∧ h.get? p.1 = some p.2 := by
  obtain ⟨b, hb, e⟩ := List.mem_filterMap.mp hp
  cases q : h.get? b with
  | none => rw [q] at e; cases e
  | some o =>
    rw [q] at e
    have e' : (b, o) = p := Option.some.inj e
    subst e'
    exact ⟨hb, q⟩
theorem Inv.pinned {pins : List (Addr × Obj)} {σ : St} {H : Hp} {s : Shared} {fp : List Addr} (I : Inv X pins σ H s) (hf : ∀ b ∈ fp, FpOk X pins H b) (ho : ∀ b ∈ fp, ∃ o, s.heap.get? b = some o ∧ ∀ v, o.data ≠ .cell v) : Inv X (pins ++ pinsAt fp s.heap) σ H s :=
  I.pins_of fun p hp => (List.mem_append.mp hp).elim (fun z => I.pin p (List.mem_append_right _ z)) fun z => by
    obtain ⟨hb, e⟩ := of_pinsAt z
    obtain ⟨f0, f1, f2, _⟩ := hf p.1 hb
    obtain ⟨o, e', d⟩ := ho p.1 hb
    rw [e] at e'; cases e'
    exact ⟨e, f0, f1, f2, d⟩
theorem Inv.unpinned {pins pl : List (Addr × Obj)} {σ : St} {H : Hp} {s : Shared} (I : Inv X (pins ++ pl) σ H s) : Inv X pins σ H s := I.pins_of fun p hp => I.pin p (List.mem_append_right _ (List.mem_append_left _ hp))
end
end L2
namespace L2
open PySem PySem.Spec PyProof.Rows
abbrev R2 := V → V → Hp → VK → Prop
def OpR (X : Cx) (f : Value → Value → Sem Value) (r : R2) : Prop :=
  ∀ (pins : List (Addr × Obj)) (s : Shared) (σ : St) (H : Hp) (x y : V) (v u : Value) (Q : VK), Inv X pins σ H s → RelV x v → RelV y u → r x y H Q →
    wpAny (model X.prog X.w) X.A (f v u) (EP X pins σ Q) X.xe s
def CallR (X : Cx) (f : Value) (r : List V → Hp → VK → Prop) : Prop :=
  ∀ (pins : List (Addr × Obj)) (s : Shared) (σ : St) (H : Hp) (xs : List V) (us : List Value) (Q : VK), Inv X pins σ H s → Vals xs us → r xs H Q →
    wpAny (model X.prog X.w) X.A (call f us) (EP X pins σ Q) X.xe s
def tOp (r : R2) (ta tb : TE) : TE := fun σ H Q => ta σ H fun x H1 => tb σ H1 fun y H2 => r x y H2 Q
def rI (C : Int → Int → Prop) (g : Int → Int → V) : R2 := fun x y H Q => ∃ i j, x = .int i ∧ y = .int j ∧ C i j ∧ Q (g i j) H
def rI0 (g : Int → Int → V) : R2 := fun x y H Q => ∃ i j, x = .int i ∧ y = .int j ∧ Q (g i j) H
section
variable {X : Cx} {a b c : Expr} {ta tb tc : TE} {pos : Pos}
theorem binT (ha : PE X a ta) (hb : PE X b tb) {pins : List (Addr × Obj)} {s : Shared} {σ : St} {H : Hp} {R : V → V → Hp → Prop} (I : Inv X pins σ H s)
    (h : ta σ H fun x H1 => tb σ H1 fun y H2 => R x y H2) {Q : Value → Shared → Prop} {f : Value → Value → Sem Value}
    (hf : ∀ v u s2 x y H2, Inv X pins σ H2 s2 → RelV x v → RelV y u → R x y H2 → wpAny (model X.prog X.w) X.A (f v u) Q X.xe s2) :
    wpAny (model X.prog X.w) X.A (eval a X.env) (fun v s₁ => wpAny (model X.prog X.w) X.A (eval b X.env) (fun u s₂ => wpAny (model X.prog X.w) X.A (f v u) Q X.xe s₂) X.xe s₁) X.xe s := by
  refine thn (ha pins s σ H _ I h) fun v s1 ⟨x, H1, I1, r1, q1⟩ => ?_
  refine thn (hb pins s1 σ H1 _ I1 q1) fun u s2 ⟨y, H2, I2, r2, q2⟩ => ?_
  exact hf v u s2 x y H2 I2 r1 r2 q2
theorem opI {f : Value → Value → Sem Value} {C : Int → Int → Prop} {g : Int → Int → Int}
    (rule : ∀ (i j : Int) (t u : Tok) (s : Shared) (Q : Value → Shared → Prop) (E : Value → Shared → Prop), C i j → Q (.int (g i j) s.toks) { s with toks := s.toks + 1 } → wpAny (model X.prog X.w) X.A (f (.int i t) (.int j u)) Q E s) :
    OpR X f (rI C fun i j => .int (g i j)) := by
  intro pins s σ H x y v u Q I rx ry h
  obtain ⟨i, j, rfl, rfl, hc, q⟩ := h
  obtain ⟨t, rfl⟩ := rx
  obtain ⟨t', rfl⟩ := ry
  exact rule i j t t' s _ _ hc ⟨.int (g i j), H, I.tok _, ⟨_, rfl⟩, q⟩
theorem opI0 {f : Value → Value → Sem Value} {g : Int → Int → Int}
    (rule : ∀ (i j : Int) (t u : Tok) (s : Shared) (Q : Value → Shared → Prop) (E : Value → Shared → Prop), Q (.int (g i j) s.toks) { s with toks := s.toks + 1 } → wpAny (model X.prog X.w) X.A (f (.int i t) (.int j u)) Q E s) :
    OpR X f (rI0 fun i j => .int (g i j)) := by
  intro pins s σ H x y v u Q I rx ry h
  obtain ⟨i, j, rfl, rfl, q⟩ := h
  obtain ⟨t, rfl⟩ := rx
  obtain ⟨t', rfl⟩ := ry
  exact rule i j t t' s _ _ ⟨.int (g i j), H, I.tok _, ⟨_, rfl⟩, q⟩
theorem opB0 {f : Value → Value → Sem Value} {g : Int → Int → Bool}
    (rule : ∀ (i j : Int) (t u : Tok) (s : Shared) (Q : Value → Shared → Prop) (E : Value → Shared → Prop), Q (.bool (g i j)) s → wpAny (model X.prog X.w) X.A (f (.int i t) (.int j u)) Q E s) :
    OpR X f (rI0 fun i j => .bl (g i j)) := by
  intro pins s σ H x y v u Q I rx ry h
  obtain ⟨i, j, rfl, rfl, q⟩ := h
  obtain ⟨t, rfl⟩ := rx
  obtain ⟨t', rfl⟩ := ry
  exact rule i j t t' s _ _ ⟨.bl (g i j), H, I, rfl, q⟩
def CMul (i j : Int) : Prop := (-(2 ^ 64) < i ∧ i < 2 ^ 64) ∨ (-(2 ^ 64) < j ∧ j < 2 ^ 64)
theorem CMul.ok {i j : Int} (h : CMul i j) : IntMulOk i j := by
  rcases h with ⟨h1, h2⟩ | ⟨h1, h2⟩
  · exact .of_left (intBits_le_64 h1 h2)
  · exact .of_right (intBits_le_64 h1 h2)
theorem op_add : OpR X (binaryOp .Add) (rI0 fun i j => .int (i + j)) := opI0 fun _ _ _ _ _ _ _ q => add_int q
theorem op_sub : OpR X (binaryOp .Sub) (rI0 fun i j => .int (i - j)) := opI0 fun _ _ _ _ _ _ _ q => sub_int q
theorem op_mod : OpR X (binaryOp .Mod) (rI (fun _ j => 0 < j) fun i j => .int (i % j)) := opI fun i j _ _ _ _ _ hc q => by
  have h1 : (0 : Int) < j := hc
  exact mod_int' (by omega) (by rw [Int.fmod_eq_emod_of_nonneg i (by omega)]; exact q)
end
def scal : V → V → Bool
  | .non, .non => true | .non, .int _ => true | .int _, .non => true | .non, .bl _ => true | .bl _, .non => true | .non, .str _ => true | .str _, .non => true
  | .int _, .int _ => true | .bl _, .bl _ => true | .str _, .str _ => true | .byt _, .byt _ => true
  | .int _, .str _ => true | .str _, .int _ => true | .bl _, .str _ => true | .str _, .bl _ => true
  | _, _ => false
def rEq : R2 := fun x y H Q => scal x y = true ∧ Q (.bl (decide (x = y))) H
theorem dec_int {i j : Int} : decide (V.int i = V.int j) = (i == j) := by
  rw [Bool.eq_iff_iff]
  simp
theorem dec_bl {i j : Bool} : decide (V.bl i = V.bl j) = (i == j) := by
  rw [Bool.eq_iff_iff]
  simp
theorem dec_str {i j : Str} : decide (V.str i = V.str j) = (i == j) := by
  rw [Bool.eq_iff_iff]
  simp
theorem dec_byt {i j : Array UInt8} : decide (V.byt i = V.byt j) = (i.toList == j.toList) := by
  rw [Bool.eq_iff_iff]
  cases i
  cases j
  simp
section
variable {X : Cx} {a b c : Expr} {ta tb tc : TE} {pos : Pos}
theorem fin_bl {pins : List (Addr × Obj)} {σ : St} {H : Hp} {s : Shared} {Q : VK} {k k' : Bool} (I : Inv X pins σ H s) (q : Q (.bl k) H) (e : k = k') : EP X pins σ Q (.bool k') s := by
  subst e
  exact ⟨.bl k, H, I, rfl, q⟩
theorem op_eq : OpR X (compareOp .Eq) rEq := by
  intro pins s σ H x y v u Q I rx ry h
  obtain ⟨hs, q⟩ := h
  cases x with
  | non =>
    cases rx
    cases y with
    | non => cases ry; exact PySem.EqNone.eq_none_none (fin_bl I q (by simp))
    | bl j => cases ry; exact PySem.EqNone.eq_none_bool (fin_bl I q (by simp))
    | int j => obtain ⟨t', rfl⟩ := ry; exact PySem.EqNone.eq_none_int (fin_bl I q (by simp))
    | str j => obtain ⟨t', rfl⟩ := ry; exact PySem.EqNone.eq_none_str (fin_bl I q (by simp))
    | _ => exact absurd (show false = true from hs) Bool.false_ne_true
  | bl i =>
    cases rx
    cases y with
    | non => cases ry; exact PySem.EqNone.eq_bool_none (fin_bl I q (by simp))
    | bl j => cases ry; exact eq_bool (fin_bl I q dec_bl)
    | str j => obtain ⟨t', rfl⟩ := ry; exact PySem.EqMixed.eq_bool_str (fin_bl I q (by simp))
    | _ => exact absurd (show false = true from hs) Bool.false_ne_true
  | int i =>
    obtain ⟨t, rfl⟩ := rx
    cases y with
    | non => cases ry; exact PySem.EqNone.eq_int_none (fin_bl I q (by simp))
    | int j => obtain ⟨t', rfl⟩ := ry; exact eq_int (fin_bl I q dec_int)
    | str j => obtain ⟨t', rfl⟩ := ry; exact PySem.EqMixed.eq_int_str (fin_bl I q (by simp))
    | _ => exact absurd (show false = true from hs) Bool.false_ne_true
  | str i =>
    obtain ⟨t, rfl⟩ := rx
    cases y with
    | non => cases ry; exact PySem.EqNone.eq_str_none (fin_bl I q (by simp))
    | bl j => cases ry; exact PySem.EqMixed.eq_str_bool (fin_bl I q (by simp))
    | int j => obtain ⟨t', rfl⟩ := ry; exact PySem.EqMixed.eq_str_int (fin_bl I q (by simp))
    | str j => obtain ⟨t', rfl⟩ := ry; exact eq_str (fin_bl I q dec_str)
    | _ => exact absurd (show false = true from hs) Bool.false_ne_true
  | byt i =>
    obtain ⟨t, rfl⟩ := rx
    cases y with
    | byt j => obtain ⟨t', rfl⟩ := ry; exact PySem.W.eq_bytes (fin_bl I q dec_byt)
    | _ => exact absurd (show false = true from hs) Bool.false_ne_true
  | _ => cases y <;> exact absurd (show false = true from hs) Bool.false_ne_true
theorem op_lt : OpR X (compareOp .Lt) (rI0 fun i j => .bl (decide (i < j))) := opB0 fun _ _ _ _ _ _ _ q => lt_int q
theorem OpR.or {f : Value → Value → Sem Value} {r r' : R2} (h : OpR X f r) (h' : OpR X f r') : OpR X f (fun x y H Q => r x y H Q ∨ r' x y H Q) := by
  intro pins s σ H x y v u Q I rx ry q
  rcases q with q | q
  · exact h pins s σ H x y v u Q I rx ry q
  · exact h' pins s σ H x y v u Q I rx ry q
theorem nomark (b : Expr) {op : CmpOp} (h : op ≠ .In := by decide) (h2 : op ≠ .NotIn := by decide) : behindInMarks op b = false := by
  have e1 : (op == CmpOp.In) = false := by cases op <;> first | rfl | exact absurd rfl h
  have e2 : (op == CmpOp.NotIn) = false := by cases op <;> first | rfl | exact absurd rfl h2
  cases b <;> simp [behindInMarks, e1, e2]
theorem line63 : (sizeLine : Nat) < 2 ^ 63 := by rw [sizeLine_eq]; decide
theorem vals1 {x : V} {us : List Value} (r : Vals [x] us) : ∃ u, us = [u] ∧ RelV x u := by
  cases r with
  | cons r1 r2 => cases r2; exact ⟨_, rfl, r1⟩
theorem vals2 {x y : V} {us : List Value} (r : Vals [x, y] us) : ∃ u w', us = [u, w'] ∧ RelV x u ∧ RelV y w' := by
  cases r with
  | cons r1 r2 =>
    cases r2 with
    | cons r3 r4 => cases r4; exact ⟨_, _, rfl, r1, r3⟩
theorem call_max2 (hc : X.calm = true) : CallR X (.builtin "max") (fun xs H Q => ∃ i j, xs = [.int i, .int j] ∧ Q (.int (if j > i then j else i)) H) := by
  intro pins s σ H xs us Q I r h
  obtain ⟨i, j, rfl, q⟩ := h
  obtain ⟨u, w', rfl, ⟨t, rfl⟩, ⟨t', rfl⟩⟩ := vals2 r
  refine max_two_ints (I.ok.hd hc) fun h' tk k => ⟨_, H, I.kept k, ?_, q⟩
  by_cases hj : j > i
  · rw [if_pos hj, if_pos hj]; exact ⟨_, rfl⟩
  · rw [if_neg hj, if_neg hj]; exact ⟨_, rfl⟩
theorem call_min2 (hc : X.calm = true) : CallR X (.builtin "min") (fun xs H Q => ∃ i j, xs = [.int i, .int j] ∧ Q (.int (if j < i then j else i)) H) := by
  intro pins s σ H xs us Q I r h
  obtain ⟨i, j, rfl, q⟩ := h
  obtain ⟨u, w', rfl, ⟨t, rfl⟩, ⟨t', rfl⟩⟩ := vals2 r
  refine min_two_ints (I.ok.hd hc) fun h' tk k => ⟨_, H, I.kept k, ?_, q⟩
  by_cases hj : j < i
  · rw [if_pos hj, if_pos hj]; exact ⟨_, rfl⟩
  · rw [if_neg hj, if_neg hj]; exact ⟨_, rfl⟩
end
end L2
namespace L2
open PySem PySem.Spec PyProof.Rows
structure ObjM (h : Heap) (x dx C : Addr) (mA : Str → Option Value) : Prop where
  obj : h.get? x = some (PySem.W.instObj C dx)
  ns : h.Ns1 dx mA
  ne : dx ≠ x
theorem lookIn_ns {h : Heap} {dx : Addr} {mA : Str → Option Value} (n : h.Ns1 dx mA) : ∃ od, h.get? dx = some od ∧ ∀ name, PySem.W.lookIn name od = some (mA name) := by
  obtain ⟨o, es, ep, ho, hd, hk, _, hm⟩ := n
  refine ⟨o, ho, fun name => ?_⟩
  have e := hm name
  unfold nsFind findBy at e
  rw [← Array.find?_toList] at e
  unfold PySem.W.lookIn
  rw [hd]
  dsimp only
  split
  · rename_i y q
    rw [q] at e
    exact congrArg some e
  · rename_i q
    rw [q] at e
    have a : es.toList.any (·.refKey) = false := by
      rw [List.any_eq_false]
      intro y hy
      obtain ⟨z, t, hkey⟩ := hk y (Array.mem_toList_iff.mp hy)
      simp [DictEntry.refKey, hkey]
    have a' : ¬ es.toList.any (·.refKey) = true := by rw [a]; exact Bool.false_ne_true
    rw [if_neg a']
    exact congrArg some e
section
variable {prog : Program} {w : World} {A : Around} {E : Value → Shared → Prop} {s : Shared} {K : PySem.W.Frag} {x dx C f : Addr} {mA : Str → Option Value} {name : Str} {v : Value}
end
theorem RelO.some_of {v : V} {o : Option Value} (r : RelO (some v) o) : ∃ u, o = some u ∧ RelV v u := by
  cases o with
  | none => exact (show False from r).elim
  | some u => exact ⟨u, rfl, r⟩
theorem handed_of {v : V} {u : Value} (r : RelV v u) : PySem.W.handedIn u = true := by
  cases v with
  | non => cases (show u = Value.none from r); rfl
  | bl b => cases (show u = Value.bool b from r); rfl
  | int i => obtain ⟨t, e⟩ := (show ∃ t, u = Value.int i t from r); cases e; rfl
  | str x => obtain ⟨t, e⟩ := (show ∃ t, u = Value.str x t from r); cases e; rfl
  | byt b => obtain ⟨t, e⟩ := (show ∃ t, u = Value.bytes b t from r); cases e; rfl
  | flt b => obtain ⟨t, e⟩ := (show ∃ t, u = Value.float b t from r); cases e; rfl
  | ref a => cases (show u = Value.ref a from r); rfl
  | ty n => cases (show u = Value.type n from r); rfl
section
variable {P : Program} {w : World} {H H' : Hp} {h h' : Heap} {a C dx : Addr} {fs fs' : List (Str × V)}
end
structure Cls (K : PySem.W.Frag) (C : Addr) : Prop where
  pg : PySem.W.plainGet K C Str.empty = true
  hd : PySem.W.hasDictIn K C = true
  po : PySem.W.plainOver K C = true
  sa : PySem.W.findIn K (.ref C) "__setattr__" = some (some (.builtin "object.__setattr__"))
theorem Cls.get {K : PySem.W.Frag} {C : Addr} (c : Cls K C) (f : Str) : PySem.W.plainGet K C f = true := c.pg
def NoAttr (K : PySem.W.Frag) (C : Addr) (f : Str) : Prop := PySem.W.findIn K (.ref C) f = some none
theorem NoAttr.taker {K : PySem.W.Frag} {C : Addr} {f : Str} (n : NoAttr K C f) : PySem.W.takerIn K C f = some none := by
  unfold PySem.W.takerIn
  rw [show PySem.W.findIn K (.ref C) f = some none from n]
  rfl
structure Con (K : PySem.W.Frag) (C : Addr) (f : Str) (v : V) (u : Value) : Prop where
  at_ : PySem.W.findIn K (.ref C) f = some (some u)
  rel : RelV v u
  get : PySem.W.specialIn K u "__get__" = some none
  cp : PySem.W.copiedNames.contains f = false
structure Meth (K : PySem.W.Frag) (C : Addr) (m : Str) (f : Addr) : Prop where
  at_ : PySem.W.findIn K (.ref C) m = some (some (.ref f))
  fn : PySem.W.isFn K (.ref f) = true
  kp : PySem.W.keepIn K (.ref f) = true
section
variable {X : Cx} {pins : List (Addr × Obj)} {σ : St} {H : Hp} {s : Shared} {a C dx : Addr} {fs : List (Str × V)} {f : Str} {v : V} {A : Around} {E : Value → Shared → Prop}
theorem attr_of {prog : Program} {w : World} {env : Env} {e : Expr} {f : Str} {pos : Pos} {s : Shared} {Q : Value → Shared → Prop} (hb : attributeBase e f env (eval e env) = eval e env)
    (h : wpAny (model prog w) A (eval e env) (fun o s₁ => wpAny (model prog w) A (getAttr o f true) Q E s₁) E s) : wpAny (model prog w) A (eval (.Attribute e f pos) env) Q E s :=
  Attribute_any_ h (by rw [arm_eval_Attribute, hb])
end
section
variable {X : Cx} {o e value : Expr} {f : Str} {pos pos' tpos : Pos} {ta tv : TE}
end
section
variable {X : Cx} {pins : List (Addr × Obj)} {σ : St} {H : Hp} {s : Shared} {A : Around} {E : Value → Shared → Prop} {Q : Value → Shared → Prop} {c : Value} {b : Bool}
inductive TyOf (K : PySem.W.Frag) (H : Hp) : V → Value → Prop where
  | non : TyOf K H .non (.type "NoneType")
  | bl (x : Bool) : TyOf K H (.bl x) (.type "bool")
  | int (i : Int) : TyOf K H (.int i) (.type "int")
  | str (x : Str) : TyOf K H (.str x) (.type "str")
  | flt (x : UInt64) : TyOf K H (.flt x) (.type "float")
  | lst {a : Addr} {xs : List V} (e : H a = some (.lst xs)) : TyOf K H (.ref a) (.type "list")
  | frz {a : Addr} {o : Obj} {xs : List V} (e : H a = some (.frz o (.lst xs))) : TyOf K H (.ref a) (.type "list")
  | tup {a : Addr} {xs : List V} (e : H a = some (.tup xs)) : TyOf K H (.ref a) (.type "tuple")
  | dK {a : Addr} {kvs : List (Key × V)} (e : H a = some (.dK kvs)) : TyOf K H (.ref a) (.type "dict")
  | dT {a : Addr} {kvs : List (List Key × V)} (e : H a = some (.dT kvs)) : TyOf K H (.ref a) (.type "dict")
  | ins {a C dx : Addr} {fs : List (Str × V)} (e : H a = some (.ins C dx fs)) (cl : Cls K C) (ha : PySem.W.findIn K (.ref C) "__class__" = some (some (.builtin "object.__class__")))
      (hn : PySem.W.specialIn K (.builtin "object.__class__") "__get__" = some (some (.builtin "getset_descriptor.__get__"))) (htk : PySem.W.takesIn K (.builtin "object.__class__") = some true)
      (hm : PySem.W.mroIn K C (.type "object") = some true) : TyOf K H (.ref a) (.ref C)
end
end L2
namespace L2
open PySem PySem.Spec PyProof.Rows
structure Room (k : Nat) (A : Around) : Prop where
  hd : A.handled = none
  dp : A.depth + 3 * k + 5 < recursionLimit
  un : A.units + 16 * k + 200 < cLine
theorem Room.mono {j k : Nat} {A : Around} (r : Room k A) (h : j ≤ k) : Room j A := ⟨r.hd, by have := r.dp; omega, by have := r.un; omega⟩
theorem Room.deeper {k : Nat} {A : Around} (r : Room (k + 1) A) (env : Env) : Room k (A.deeper env) :=
  ⟨r.hd, by have := r.dp; show A.depth + 1 + 3 * k + 5 < _; omega, by have := r.un; show A.units + 3 + 16 * k + 200 < _; omega⟩
theorem Room.in1 {k : Nat} {A : Around} (r : Room (k + 1) A) : Room k A.in1 :=
  ⟨r.hd, by have := r.dp; show A.depth + 3 * k + 5 < _; omega, by have := r.un; show A.units + 1 + 16 * k + 200 < _; omega⟩
theorem make_depth {A : Around} {C : Addr} {us : List Value} {kw : List (Str × Value)} : (A.under (.builtin "type.__call__" ⟨.ref C :: us, kw⟩)).depth = A.depth + 1 := by
  first | rfl | simp [Around.under, Code.weight, Code.isCreation, Code.isGuard, Code.isCaller, Code.frames, Code.isFrame, guardIds]
theorem make_units {A : Around} {C : Addr} {us : List Value} {kw : List (Str × Value)} : (A.under (.builtin "type.__call__" ⟨.ref C :: us, kw⟩)).units = A.units + 1 := by
  first | rfl | simp [Around.under, Code.cUnits, Code.frames, Code.isFrame]
theorem Room.make {k : Nat} {A : Around} (r : Room (k + 1) A) (C : Addr) (us : List Value) (kw : List (Str × Value)) : Room k (A.under (.builtin "type.__call__" ⟨.ref C :: us, kw⟩)) :=
  ⟨r.hd, by have := r.dp; rw [make_depth]; omega, by have := r.un; rw [make_units]; omega⟩
theorem Room.depth {k : Nat} {A : Around} (r : Room k A) : A.depth < recursionLimit := by have := r.dp; omega
theorem Room.units {k : Nat} {A : Around} (r : Room k A) : A.units + 64 < cLine := by have := r.un; omega
def tNil : TA := fun _ H Q => Q [] H
def tCons (ta : TE) (tr : TA) : TA := fun σ H Q => ta σ H fun x H1 => tr σ H1 fun xs H2 => Q (x :: xs) H2
section
variable {X : Cx} {e : Expr} {es : List Expr} {te : TE} {t : TA} {pos : Pos}
theorem pa_nil : PA X [] tNil := fun _ _ _ _ H Q I h => Calls.spliced_nil ⟨[], H, I, .nil, h⟩
theorem pa_cons (ha : PE X e te) (hr : PA X es t) (hs : starEach (e :: es) X.env = (false, eval e X.env) :: starEach es X.env := by rfl) : PA X (e :: es) (tCons te t) := by
  intro pos pins s σ H Q I h
  rw [hs]
  show wpAny _ _ (spliced ((false, eval e X.env) :: backTo pos (starEach es X.env))) _ _ s
  refine Calls.spliced_cons (thn (ha pins s σ H _ I h) fun u s1 ⟨x, H1, I1, r1, q1⟩ => ?_)
  exact thn (hr pos pins s1 σ H1 _ I1 q1) fun us s2 ⟨xs, H2, I2, r2, q2⟩ => ⟨x :: xs, H2, I2, .cons r1 r2, q2⟩
def tTup (t : TA) : TE := fun σ H Q => t σ H fun xs H1 => xs.length ≤ sizeLine ∧ ∀ p, H1 p = none → Q (.ref p) (upd H1 p (.tup xs))
def tLst (t : TA) : TE := fun σ H Q => t σ H fun xs H1 => xs.length ≤ sizeLine ∧ ∀ p, H1 p = none → Q (.ref p) (upd H1 p (.lst xs))
theorem pe_tup {x1} (h : PA X es t) : PE X (.Tuple es x1 pos) (tTup t) := by
  intro pins s σ H Q I hq
  refine wpAny_Tuple_spliced (thn (h pos pins s σ H _ I hq) fun us s1 ⟨xs, H1, I1, r, z, q⟩ => ⟨by rw [← r.length]; exact z, ?_⟩)
  have hf : H1 s1.heap.objs.size = none := I1.hok.fresh (Nat.le_refl _)
  refine ⟨.ref s1.heap.objs.size, upd H1 s1.heap.objs.size (.tup xs), I1.laid (t' := s1.toks) (fun b u e => Heap.get?_push_of_some _ e) (Nat.le_refl _) ?_, rfl, q _ hf⟩
  exact ⟨z, us, r, ⟨_, Heap.get?_push_size _ rfl, rfl, _, rfl⟩⟩
theorem pe_lst (h : PA X es t) : PE X (.List es pos) (tLst t) := by
  intro pins s σ H Q I hq
  refine wpAny_List_spliced (thn (h pos pins s σ H _ I hq) fun us s1 ⟨xs, H1, I1, r, z, q⟩ => ⟨by rw [← r.length]; exact z, ?_⟩)
  have hf : H1 s1.heap.objs.size = none := I1.hok.fresh (Nat.le_refl _)
  refine ⟨.ref s1.heap.objs.size, upd H1 s1.heap.objs.size (.lst xs), I1.laid (t' := s1.toks) (fun b u e => Heap.get?_push_of_some _ e) (Nat.le_refl _) ?_, rfl, q _ hf⟩
  exact ⟨z, us, 0, r, Heap.get?_push_size _ rfl⟩
end
abbrev Sp := List V → Hp → VK → XK → Prop
abbrev CXT := List Env → Hp → Shared → XK → Value → Shared → Prop
structure Env0 (P : Program) (w : World) (K : PySem.W.Frag) (mg : Str → Option Value) (base : Heap) (A : Around) (outer : List Env) (s : Shared) (H : Hp) : Prop where
  frames : A.frames = some outer
  mod : Mod K mg base
  bs : ∀ b o, base.get? b = some o → s.heap.get? b = some o ∧ H b = none
  bsz : base.objs.size ≤ s.heap.objs.size
  funs : s.heap.FunFrames base outer
  frf : ∀ b ∈ frs outer, H b = none
  hok : HOk P w H s.heap
  bare : AllBare s.gens
def CE (outer : List Env) (P : Program) (w : World) (H : Hp) (s : Shared) (Q : VK) (u : Value) (s' : Shared) : Prop :=
  ∃ v H', s'.os = s.os ∧ AllBare s'.gens ∧ Un (frs outer) [] H H' s.heap s'.heap ∧ HOk P w H' s'.heap ∧ RelV v u ∧ Q v H'
def CR (CX : CXT) (outer : List Env) (P : Program) (w : World) (H : Hp) (s : Shared) (Q : VK) (E : XK) (r : Result) (s' : Shared) : Prop :=
  match r with
  | .ok (.ret u) => CE outer P w H s Q u s'
  | .ok _ => False
  | .error e => CX outer H s E e s'
structure FnOk (P : Program) (w : World) (K : PySem.W.Frag) (mg : Str → Option Value) (base : Heap) (CX : CXT) (k : Nat) (f : Addr) (fd : FuncData) (ps : List Str) (sp : Sp) : Prop where
  len : ∀ vs H Q E, sp vs H Q E → vs.length = ps.length
  run : ∀ (A : Around) (outer : List Env) (s : Shared) (H : Hp) (args : Args) (us : List Value) (vs : List V) (Q : VK) (E : XK), Room k A → Env0 P w K mg base A outer s H → BindsTo s fd args (ps.zip us) → Vals vs us → sp vs H Q E →
    codeAny (model P w) A (.call (.ref f) args) (CR CX outer P w H s Q E) s
theorem FnOk.mono {P : Program} {w : World} {K : PySem.W.Frag} {mg : Str → Option Value} {base : Heap} {CX : CXT} {j k : Nat} {f : Addr} {fd : FuncData} {ps : List Str} {sp : Sp} (F : FnOk P w K mg base CX j f fd ps sp) (h : j ≤ k) :
    FnOk P w K mg base CX k f fd ps sp := ⟨F.len, fun A outer s H args us vs Q E hr => F.run A outer s H args us vs Q E (hr.mono h)⟩
theorem Env0.make {P : Program} {w : World} {K : PySem.W.Frag} {mg : Str → Option Value} {base : Heap} {A : Around} {outer : List Env} {s : Shared} {H : Hp} (e : Env0 P w K mg base A outer s H) (C : Addr) (us : List Value) (kw : List (Str × Value)) :
    Env0 P w K mg base (A.under (.builtin "type.__call__" ⟨.ref C :: us, kw⟩)) outer s H := ⟨by first | exact e.frames | (simpa [Around.under, Code.envs, Code.isFrame, pushEnvs] using e.frames), e.mod, e.bs, e.bsz, e.funs, e.frf, e.hok, e.bare⟩
theorem Env0.in1 {P : Program} {w : World} {K : PySem.W.Frag} {mg : Str → Option Value} {base : Heap} {A : Around} {outer : List Env} {s : Shared} {H : Hp} (e : Env0 P w K mg base A outer s H) :
    Env0 P w K mg base A.in1 outer s H := ⟨e.frames, e.mod, e.bs, e.bsz, e.funs, e.frf, e.hok, e.bare⟩
section
variable {X : Cx} {pins : List (Addr × Obj)} {σ : St} {H : Hp} {s s' : Shared}
theorem Inv.env0 (I : Inv X pins σ H s) : Env0 X.prog X.w X.K X.mg X.base X.A X.stack s H :=
  ⟨I.ok.frames, I.ok.mod, I.bs, Nat.le_trans I.ok.bsz I.sz, I.stack, I.stkFree, I.hok, I.bare⟩
theorem Inv.after {Q : VK} {u : Value} (I : Inv X pins σ H s) (h : CE X.stack X.prog X.w H s Q u s') : EP X pins σ Q u s' := by
  obtain ⟨v, H', os, bare, un, hok, r, q⟩ := h
  obtain ⟨hh, g, d, t, os'⟩ := s'
  obtain rfl : os' = s.os := os
  exact ⟨v, H', I.call (h' := hh) (g' := g) (d' := d) (t' := t) (ch := []) un hok bare (fun b z => absurd z (by simp)), r, q⟩
end
def tCall (sp : Sp) (dvs : List V) (E : XK) (t : TA) : TE := fun σ H Q => t σ H fun vs H1 => sp (vs ++ dvs) H1 Q E
def Binds (K : PySem.W.Frag) (fd : FuncData) (ps : List Str) (ds : List Value) : Prop :=
  ∀ (s : Shared) (us : List Value), K.In s.heap → (us ++ ds).length = ps.length → BindsTo s fd ⟨us, []⟩ (ps.zip (us ++ ds))
theorem Binds.all {K : PySem.W.Frag} {fd : FuncData} {ps : List Str} (h : ∀ us : List Value, us.length = ps.length → bindArgs fd ⟨us, []⟩ = pure (ps.zip us)) : Binds K fd ps [] := fun s us _ hl => by
  rw [List.append_nil] at hl ⊢
  exact .of_eq (h us hl)
def Passes (CX : CXT) (X : Cx) (E : XK) : Prop := ∀ (pins : List (Addr × Obj)) (σ : St) (H : Hp) (s : Shared) (e : Value) (s' : Shared), Inv X pins σ H s → CX X.stack H s E e s' → X.xe e s'
section
variable {X : Cx} {CX : CXT} {k : Nat} {f C : Addr} {fd : FuncData} {ps : List Str} {sp : Sp} {dvs : List V} {ds : List Value} {E : XK} {x m : Str} {p pos apos : Pos} {e o : Expr} {es : List Expr} {ta : TE} {t : TA}
theorem run_fn {pins : List (Addr × Obj)} {σ : St} {H : Hp} {s : Shared} {Q : VK} {us : List Value} {vs : List V} (F : FnOk X.prog X.w X.K X.mg X.base CX k f fd ps sp) (hr : Room k X.A) (hb : Binds X.K fd ps ds) (hd : Vals dvs ds) (hx : Passes CX X E)
    (I : Inv X pins σ H s) (r : Vals vs us) (h : sp (vs ++ dvs) H Q E) : wpAny (model X.prog X.w) X.A (call (.ref f) us) (EP X pins σ Q) X.xe s := by
  have r2 : Vals (vs ++ dvs) (us ++ ds) := r.append hd
  have hl : (us ++ ds).length = ps.length := by rw [← r2.length]; exact F.len _ _ _ _ h
  refine wpAny_call (codeAny_mono (F.run X.A X.stack s H ⟨us, []⟩ (us ++ ds) (vs ++ dvs) Q E hr I.env0 (hb s us I.kIn hl) r2 h) fun r s' hq => ?_)
  cases r with
  | error e => exact hx pins σ H s e s' I hq
  | ok fl =>
    cases fl with
    | ret u => exact I.after hq
    | next => exact False.elim hq
    | brk => exact False.elim hq
    | cont => exact False.elim hq
theorem pe_call (F : FnOk X.prog X.w X.K X.mg X.base CX k f fd ps sp) (hr : Room k X.A) (hg : Gl X x) (hm : X.mg x = some (.ref f)) (hk : PySem.W.keepIn X.K (.ref f) = true) (hb : Binds X.K fd ps ds) (hd : Vals dvs ds) (hx : Passes CX X E)
    (ha : PA X (e :: es) t) (hdb : (x == ("__debug__" : Str)) = false := by decide) (he : starEach (e :: es) X.env = (false, eval e X.env) :: starEach es X.env := by rfl) (hpl : (backTo pos (starEach es X.env)).any (·.1) = false := by rfl) :
    PE X (.Call (.Name x p) (e :: es) [] pos) (tCall sp dvs E t) := by
  intro pins s σ H Q I h
  refine wpAny_Call_Name_kw (ld_glob I hg hm ?_ hdb)
  refine PySem.W.callWith_K (h₀ := X.base) I.ok.mod.kin hk (thn (ha pos pins s σ H _ I h) fun us s1 ⟨vs, H1, I1, r, q⟩ => ⟨I1.kIn, ?_⟩) he hpl
  exact run_fn F hr hb hd hx I1 r q
structure Mk (K : PySem.W.Frag) (C f : Addr) : Prop where
  makes : PySem.W.makesIn K C = true
  init : PySem.W.findIn K (.ref C) "__init__" = some (some (.ref f))
  fn : PySem.W.isFn K (.ref f) = true
  kp : PySem.W.keepIn K (.ref C) = true
end
section
variable {X : Cx} {CX : CXT} {k : Nat} {f C : Addr} {fd : FuncData} {ps ks : List Str} {sp : Sp} {E : XK} {x m : Str} {p pos apos kpos : Pos} {e o : Expr} {es : List Expr} {kws : List Keyword} {te ta : TE} {t tk : TA} {nm : Option Str}
structure KBinds (K : PySem.W.Frag) (fd : FuncData) (ps ks : List Str) (g : List Value → List Value → List Value) (gV : List V → List V → List V) : Prop where
  to : ∀ (s : Shared) (us ws : List Value), K.In s.heap → (g us ws).length = ps.length → BindsTo s fd ⟨us, ks.zip ws⟩ (ps.zip (g us ws))
  rel : ∀ {vs : List V} {us : List Value} {zs : List V} {ws : List Value}, Vals vs us → Vals zs ws → Vals (gV vs zs) (g us ws)
variable {g : List Value → List Value → List Value} {gV : List V → List V → List V}
end
structure FnScope (N P : List Str) (sc : Scope) : Prop where
  kind : sc.kind = .function
  co : sc.isCoroutine = false
  gen : sc.isGenerator = false
  nd : N.Nodup
  pre : N.take P.length = P
  par : ∀ x ∈ P, sc.names.lookup x = some .local ∨ sc.names.lookup x = some .cell
  nofree : ∀ y ∈ sc.names, y.2 ≠ .free
theorem bindL_out {kindOf : Str → Option NameKind} {x : Str} : ∀ {binds : List (Str × Value)} {m : Str → Option Value}, (∀ v, (x, v) ∉ binds) → bindL kindOf binds m x = m x
  | [], _, _ => rfl
  | (n, v) :: r, m, h => by
    unfold bindL
    rw [bindL_out fun w hw => h w (List.mem_cons_of_mem _ hw)]
    split
    · have : x ≠ n := by rintro rfl; exact h v List.mem_cons_self
      simp [this]
    · rfl
theorem bindC_out {kindOf : Str → Option NameKind} {x : Str} : ∀ {binds : List (Str × Value)} {m : Str → Option Value}, (∀ v, (x, v) ∉ binds) → bindC kindOf binds m x = m x
  | [], _, _ => rfl
  | (n, v) :: r, m, h => by
    unfold bindC
    rw [bindC_out fun w hw => h w (List.mem_cons_of_mem _ hw)]
    split
    · rfl
    · have : x ≠ n := by rintro rfl; exact h v List.mem_cons_self
      simp [this]
theorem bindL_get {kindOf : Str → Option NameKind} {x : Str} {v : Value} : ∀ {P : List Str} {vs : List Value} {i : Nat} {m : Str → Option Value}, P.Nodup → P[i]? = some x → vs[i]? = some v → kindOf x = some .local →
    bindL kindOf (P.zip vs) m x = some v
  | [], _, _, _, _, h, _, _ => by simp at h
  | _ :: _, [], _, _, _, _, h, _ => by simp at h
  | p :: P, w :: vs, 0, m, nd, h1, h2, hk => by
    simp at h1 h2; subst h1; subst h2
    show bindL kindOf ((p, w) :: P.zip vs) m p = _
    unfold bindL
    rw [bindL_out fun v hv => (List.nodup_cons.mp nd).1 (List.of_mem_zip hv).1, if_pos hk]
    simp
  | p :: P, w :: vs, i + 1, m, nd, h1, h2, hk => by
    show bindL kindOf ((p, w) :: P.zip vs) m x = _
    unfold bindL
    exact bindL_get (i := i) (List.nodup_cons.mp nd).2 (by simpa using h1) (by simpa using h2) hk
theorem bindC_get {kindOf : Str → Option NameKind} {x : Str} {v : Value} : ∀ {P : List Str} {vs : List Value} {i : Nat} {m : Str → Option Value}, P.Nodup → P[i]? = some x → vs[i]? = some v → kindOf x ≠ some .local →
    bindC kindOf (P.zip vs) m x = some v
  | [], _, _, _, _, h, _, _ => by simp at h
  | _ :: _, [], _, _, _, _, h, _ => by simp at h
  | p :: P, w :: vs, 0, m, nd, h1, h2, hk => by
    simp at h1 h2; subst h1; subst h2
    show bindC kindOf ((p, w) :: P.zip vs) m p = _
    unfold bindC
    rw [bindC_out fun v hv => (List.nodup_cons.mp nd).1 (List.of_mem_zip hv).1, if_neg hk]
    simp
  | p :: P, w :: vs, i + 1, m, nd, h1, h2, hk => by
    show bindC kindOf ((p, w) :: P.zip vs) m x = _
    unfold bindC
    exact bindC_get (i := i) (List.nodup_cons.mp nd).2 (by simpa using h1) (by simpa using h2) hk
def start (N : List Str) (vs : List V) : St := vs.map some ++ List.replicate (N.length - vs.length) none
def cxOf (CX : CXT) (P : Program) (w : World) (K : PySem.W.Frag) (mg : Str → Option Value) (base : Heap) (N : List Str) (qual : Str) (scope : Scope) (f : Addr) (cd : Value) (A : Around) (outer : List Env) (s : Shared) (H : Hp) (E : XK) : Cx where
  prog := P
  w := w
  K := K
  mg := mg
  base := base
  A := A.deeper (envOfC qual scope s.heap.objs.size f cd)
  N := N
  s₀ := s
  H₀ := H
  env := envOfC qual scope s.heap.objs.size f cd
  outer := outer
  stack := envOfC qual scope s.heap.objs.size f cd :: outer
  ex := []
  calm := true
  fn := fun _ => true
  pn := []
  xe := fun e s' => wpAny (model P w) (A.deeper (envOfC qual scope s.heap.objs.size f cd)) (leaving (envOfC qual scope s.heap.objs.size f cd) e) (fun _ s'' => CX outer H s E e s'') (fun e' s'' => CX outer H s E e' s'') s'
theorem cell_has {sc : Scope} {n : Nat} {x : Str} (h : sc.names.lookup x = some .cell) : ∃ c, (cellsFrom n sc.names []).lookup x = some c := by
  have q := PySem.W.cellsFrom_some sc.names n [] (.inl h)
  exact Option.isSome_iff_exists.mp q
theorem inv_start {CX : CXT} {P : Program} {w : World} {K : PySem.W.Frag} {mg : Str → Option Value} {base : Heap} {N ps : List Str} {qual : Str} {scope : Scope} {f : Addr} {cd : Value} {A : Around} {outer : List Env} {s s1 : Shared} {H : Hp} {E : XK} {us : List Value} {vs : List V}
    (S : FnScope N ps scope) (hd : A.handled = none) (e0 : Env0 P w K mg base A outer s H) (hl : vs.length = ps.length) (r : Vals vs us)
    (x : InCallC s s.heap.objs.size (bindL (envOfC qual scope s.heap.objs.size f cd).kindOf (ps.zip us) fun _ => none) (cellsFrom (s.heap.objs.size + 1) scope.names []) (bindC (envOfC qual scope s.heap.objs.size f cd).kindOf (ps.zip us) fun _ => none) s1) :
    Inv (cxOf CX P w K mg base N qual scope f cd A outer s H E) [] (start N vs) H s1 := by
  have hpl : ps.length ≤ N.length := by have := congrArg List.length S.pre; rw [List.length_take] at this; omega
  obtain ⟨h1, tk, rfl, hk⟩ := x.done
  have noA : ∀ b : Addr, b ∉ (cxOf CX P w K mg base N qual scope f cd A outer s H E).ex := fun b z => absurd (show b ∈ ([] : List Addr) from z) (by simp)
  refine ⟨⟨e0.mod, S.kind, rfl, rfl, Nat.le_refl _, fun y z c h1 h2 => ?_, fun y hy => ?_, fun y c _ h => ?_, fun _ => hd, Around.frames_deeper e0.frames, .inr ⟨rfl, rfl⟩, fun b z => absurd z (noA b), e0.bs, e0.bsz, fun b _ _ => noA b, fun b z => absurd z (noA b), e0.funs, e0.frf⟩,
    rfl, e0.bare, Un.kept hk, ⟨_, x.toInCall.ns, fun i y v h1 h2 h3 => ?_⟩, fun y c h => ⟨_, x.cell y c h⟩, e0.hok.fresh (Nat.le_refl _), fun y c h => ?_, fun p hp => absurd (show p ∈ ([] : List (Addr × Obj)) from hp) (by simp), e0.hok.kept hk, ?_⟩
  · exact name_of_addr x.apart (PySem.mem_of_lookup h1) (PySem.mem_of_lookup h2)
  · have hy : scope.names.lookup y = some .cell ∨ scope.names.lookup y = some .free := hy
    rcases hy with hy | hy
    · exact cell_has hy
    · exact absurd rfl (S.nofree _ (PySem.mem_of_lookup hy))
  · exact Nat.le_of_lt (x.above y c (PySem.mem_of_lookup h))
  · have hi : i < vs.length := by
      unfold start at h2
      by_cases hi : i < vs.length
      · exact hi
      · rw [List.getElem?_append_right (by simpa using hi)] at h2
        rw [List.getElem?_replicate] at h2
        split at h2 <;> cases h2
    have ha : vs[i]? = some v := by
      unfold start at h2
      rw [List.getElem?_append_left (by simpa using hi), List.getElem?_map] at h2
      cases e : vs[i]? with
      | none => rw [e] at h2; cases h2
      | some a => rw [e] at h2; cases h2; rfl
    obtain ⟨u, hu, rv⟩ := r.get ha
    have hp : ps[i]? = some y := by
      rw [← S.pre, List.getElem?_take_of_lt (by omega)]; exact h1
    have ndP : ps.Nodup := by rw [← S.pre]; exact S.nd.sublist (List.take_sublist _ _)
    refine ⟨u, rv, ?_⟩
    rcases S.par y (List.mem_of_getElem? hp) with k | k
    · exact .inl ⟨k, bindL_get ndP hp hu k⟩
    · obtain ⟨c, e⟩ := cell_has (n := s.heap.objs.size + 1) k
      refine .inr ⟨.inl k, c, e, ?_⟩
      have q := x.cell y c e
      rw [bindC_get ndP hp hu (by show scope.names.lookup y ≠ _; rw [k]; decide)] at q
      exact q
  · exact e0.hok.fresh (Nat.le_of_lt (x.above y c (PySem.mem_of_lookup h)))
  · unfold start
    show _ = N.length
    rw [List.length_append, List.length_map, List.length_replicate]
    omega
theorem fn_of {CX : CXT} {P : Program} {w : World} {K : PySem.W.Frag} {mg : Str → Option Value} {base : Heap} {k : Nat} {f : Addr} {name qual : Str} {params : Arguments} {body : List Stmt} {scope : Scope} {dV kV doc pm cdv ct oc : Value} {an od : Option Addr}
    {osl : Array (Option Value)} {N ps : List Str} {sp : Sp} (lk : K.lookup f = some ⟨oc, od, .func (PySem.W.fnOf name qual params body scope dV kV doc pm an cdv ct), osl⟩) (hcd : PySem.W.codeIn K cdv qual = true) (S : FnScope N ps scope)
    (len : ∀ vs H Q E, sp vs H Q E → vs.length = ps.length)
    (hbody : ∀ (A : Around) (outer : List Env) (s : Shared) (H : Hp) (vs : List V) (Q : VK) (E : XK), Room k (A.deeper (envOfC qual scope s.heap.objs.size f cdv)) → sp vs H Q E →
      ∃ t, PSs (cxOf CX P w K mg base N qual scope f cdv A outer s H E) body t ∧ t { nx := fun _ H' => Q .non H', rt := Q } (start N vs) H) :
    FnOk P w K mg base CX (k + 1) f (PySem.W.fnOf name qual params body scope dV kV doc pm an cdv ct) ps sp := by
  refine ⟨len, fun A outer s H args us vs Q E hr e0 hb r hsp => ?_⟩
  have hl := len _ _ _ _ hsp
  have KX : K.In s.heap := e0.mod.kin.keeps fun b o e => (e0.bs b o e).1
  have lim : s.heap.NoLimit := e0.mod.nolimit.keeps fun b o e => (e0.bs b o e).1
  have hkind : ∀ y ∈ ps.zip us, scope.names.lookup y.1 = some .local ∨ (scope.names.lookup y.1 = some .cell ∧ ((cellsFrom (s.heap.objs.size + 1) scope.names []).lookup y.1).isSome = true) := fun ⟨n, v⟩ hy => by
    rcases S.par n (List.of_mem_zip hy).1 with q | q
    · exact .inl q
    · exact .inr ⟨q, PySem.W.cellsFrom_some _ _ _ (.inl q)⟩
  refine codeAny_call_function hr.depth (KX _ _ lk) rfl S.co S.gen rfl (PySem.W.codeRec_of KX hcd) (hb _ _ _ _ ?_)
  refine wpAny_newFunctionEnv_cells S.kind hkind fun env he s1 x => ?_
  subst he
  refine ⟨lim.keeps x.toInCall.keep, codeAny_func ?_⟩
  obtain ⟨t, ht, hq⟩ := hbody A outer s H vs Q E (hr.deeper _) hsp
  have I : Inv (cxOf CX P w K mg base N qual scope f cdv A outer s H E) [] (start N vs) H s1 := inv_start S hr.hd e0 hl r x
  refine wpAny_mono (ht [] s1 (start N vs) H _ I hq) (fun fl s' hs => ?_) fun e s' hs => hs
  have fin : ∀ {σ' : St} {H' : Hp} {v : V} {u : Value}, Inv (cxOf CX P w K mg base N qual scope f cdv A outer s H E) [] σ' H' s' → RelV v u → Q v H' → CE outer P w H s Q u s' :=
    fun {σ' H' v u} J rv q => ⟨v, H', J.os, J.bare, J.base, J.hok, rv, q⟩
  cases fl with
  | ret u =>
    obtain ⟨v, σ', H', J, rv, q⟩ := hs
    exact fin J rv q
  | next =>
    obtain ⟨σ', H', J, q⟩ := hs
    exact fin (v := V.non) (u := Value.none) J rfl q
  | brk =>
    obtain ⟨_, _, _, q⟩ := hs
    exact False.elim q
  | cont =>
    obtain ⟨_, _, _, q⟩ := hs
    exact False.elim q
end L2
namespace L2
open PySem PySem.Spec PyProof.Rows
section
variable {X : Cx} {x : Str} {p pos : Pos} {e : Expr} {es : List Expr} {t : TA} {id T : String} {r : List V → Hp → VK → Prop}
end
end L2
namespace HT
open PySem PyProof.Rows
def lexLt : List Int → List Int → Bool
  | [], [] => false
  | [], _ :: _ => true
  | _ :: _, [] => false
  | x :: xs, y :: ys => if x = y then lexLt xs ys else decide (x < y)
theorem lexLt_cons (x y : Int) (xs ys : List Int) : lexLt (x :: xs) (y :: ys) = if x = y then lexLt xs ys else decide (x < y) := rfl
theorem lexLt_nil_nil : lexLt [] [] = false := rfl
theorem lexLt_nil_cons (y : Int) (ys : List Int) : lexLt [] (y :: ys) = true := rfl
theorem lexLt_cons_nil (x : Int) (xs : List Int) : lexLt (x :: xs) [] = false := rfl
theorem eqAt_int (A : Around) (s : Shared) (a : Int) (t : Tok) (c : Int) (u : Tok) : ∃ e, SeqAt.EqAt A s (.int a t) (.int c u) e ∧ (e = true ↔ a = c) :=
  ⟨(a == c), SeqAt.EqAt.int_int a t c u, by simp⟩
theorem rcLt_int (A : Around) (s : Shared) (a : Int) (t : Tok) (c : Int) (u : Tok) (prog : Program) (w : World) (E : Value → Shared → Prop) (Q : Value → Shared → Prop) (h : Q (.bool (decide (a < c))) s) :
    wpAny (model prog w) A (richCompare .Lt (.int a t) (.int c u)) Q E s :=
  (PyProof.Rows.lt_int h : wpAny (model prog w) A (compareOp .Lt (.int a t) (.int c u)) Q E s)
section
open PySem.SeqAt
open PySem.AutoSeq1 (wpAny_loadPart')
open PySem.MeetsSeq PySem.MeetsSeq2 PySem.MeetsSeq3
theorem tuple_lt_ints (l b : Addr) (items items2 : Array Value) (n n2 : Nat) (dd dd2 : Option Addr) (sl sl2 : Array (Option Value)) (ns ms : List Int) (hi : IntsAre items.toList ns) (hj : IntsAre items2.toList ms) :
    Meets (Builtin.«tuple.__lt__» ⟨[.ref l, .ref b], []⟩)
      (fun _ R s => s.heap.get? l = some { cls := .type "tuple", dict := dd, data := .seq items n, slots := sl } ∧ s.heap.get? b = some { cls := .type "tuple", dict := dd2, data := .seq items2 n2, slots := sl2 } ∧
        R (.ok (.ret (.bool (lexLt ns ms)))) s) :=
  .of_wp fun prog w A R s h => by
    obtain ⟨hp, g, d, tk, os⟩ := s; obtain ⟨hl, hb, h⟩ := h
    have f2 := AutoSeq1.sub_tuple_tuple
    have z1 : items.size = ns.length := by rw [← hi.length]; simp
    have z2 : items2.size = ms.length := by rw [← hj.length]; simp
    wp_walk using wpAny_loadPart' hl, wpAny_loadPart' hb, wpAny_forIn_list _ (fun rest b s' => b.1 = none ∧ s' = ⟨hp, g, d, tk, os⟩ ∧ ∃ (vs ws : List Value) (ns' ms' : List Int), rest = vs.zip ws ∧
      IntsAre vs ns' ∧ IntsAre ws ms' ∧ ns'.length + items2.size = ms'.length + items.size ∧ R (.ok (.ret (.bool (lexLt ns' ms')))) ⟨hp, g, d, tk, os⟩) _
    case turn =>
      rintro ⟨y, x⟩ rest b s' ⟨hb', rfl, vs, ws, ns', ms', hz, hvi, hwi, hlen, hR⟩
      cases hvi with
      | nil => rw [List.zip_nil_left] at hz; cases hz
      | cons a t hvi' =>
        cases hwi with
        | nil => rw [List.zip_nil_right] at hz; cases hz
        | cons c u hwi' =>
          rw [List.zip_cons_cons] at hz
          injection hz with hyx hrest
          injection hyx with hy hx
          subst hy hx
          rw [lexLt_cons] at hR
          simp only [List.length_cons] at hlen
          obtain ⟨e, he, hiff⟩ := eqAt_int A.in1 ⟨hp, g, d, tk, os⟩ a t c u
          refine wpAny_bind (he prog w _ _ ?_)
          cases e with
          | true =>
            rw [if_pos (hiff.mp rfl)] at hR
            wp_walk
            exact ⟨rfl, rfl, _, _, _, _, hrest, hvi', hwi', by omega, hR⟩
          | false =>
            rw [if_neg (fun q => absurd (hiff.mpr q) Bool.false_ne_true)] at hR
            have hri := rcLt_int A.in1 ⟨hp, g, d, tk, os⟩ a t c u prog w
            wp_walk using hri
            exact ⟨_, rfl, by simpa using hR⟩
    case fin =>
      rintro ⟨b1, b2⟩ s' ⟨hb', rfl, vs, ws, ns', ms', hz, hvi, hwi, hlen, hR⟩
      simp only at hb'
      subst hb'
      have hv : lexLt ns' ms' = decide (items.size < items2.size) := by
        cases hvi with
        | nil =>
          cases hwi with
          | nil =>
            simp only [List.length_nil] at hlen
            rw [lexLt_nil_nil]
            exact (decide_eq_false (by omega)).symm
          | cons c u hw =>
            simp only [List.length_nil, List.length_cons] at hlen
            rw [lexLt_nil_cons]
            exact (decide_eq_true (by omega)).symm
        | cons a t hv =>
          cases hwi with
          | nil =>
            simp only [List.length_nil, List.length_cons] at hlen
            rw [lexLt_cons_nil]
            exact (decide_eq_false (by omega)).symm
          | cons c u hw =>
            rw [List.zip_cons_cons] at hz
            cases hz
      rw [hv] at hR
      wp_walk
      exact ⟨_, rfl, by simpa [Builtin.Tuple.tupleCompareSizes] using hR⟩
    case h =>
      exact ⟨rfl, rfl, items.toList, items2.toList, ns, ms, rfl, hi, hj, by omega, h⟩
end
section
variable {prog : Program} {w : World} {A : Around} {E : Value → Shared → Prop} {s : Shared}
theorem lt_tupInts {l b : Addr} {items items2 : Array Value} {ns ms : List Int} {Q : Value → Shared → Prop} (hl : IsTup s.heap l items) (hb : IsTup s.heap b items2) (hi : IntsAre items.toList ns) (hj : IntsAre items2.toList ms)
    (hu : A.units < cLine) (h : Q (.bool (lexLt ns ms)) s) : wpAny (model prog w) A (compareOp .Lt (.ref l) (.ref b)) Q E s := by
  obtain ⟨⟨cls, dd, data, sl⟩, ho, hc, n, hd⟩ := id hl
  obtain ⟨⟨cls2, dd2, data2, sl2⟩, ho2, hc2, n2, hd2⟩ := id hb
  simp only at hc hd hc2 hd2
  subst hc hd hc2 hd2
  exact richCompare_meets_room (op := .Lt) ⟨_, ho, rfl⟩ ⟨_, ho2, rfl⟩ PySem.F.slot_tuple_lt PySem.F.entry_tuple_lt (PySem.F.args_tuple_lt_2 _ _) (tuple_lt_ints l b items items2 n n2 dd dd2 sl sl2 ns ms hi hj)
    ⟨ho, ho2, show Value.bool (lexLt ns ms) ≠ Value.notImplemented ∧ Q (.bool (lexLt ns ms)) s from ⟨(fun x => nomatch x), h⟩⟩ hu
end
end HT
namespace L2
open PySem PySem.Spec PyProof.Rows
abbrev TO := St → Hp → (Option Int → Hp → Prop) → Prop
def PO (X : Cx) (e : Option Expr) (t : TO) : Prop :=
  ∀ (pins : List (Addr × Obj)) (s : Shared) (σ : St) (H : Hp) (Q : Option Int → Hp → Prop), Inv X pins σ H s → t σ H Q →
    wpAny (model X.prog X.w) X.A (evalPart e X.env) (fun u s' => ∃ o H', Inv X pins σ H' s' ∧ IsPart u o ∧ Q o H') X.xe s
theorem intsAre_of {ns : List Int} : ∀ {us : List Value}, Vals (ns.map V.int) us → IntsAre us ns := by
  induction ns with
  | nil => intro us r; rw [List.map_nil] at r; cases r; exact .nil
  | cons n ns ih =>
    intro us r
    rw [List.map_cons] at r
    cases r with
    | cons r1 r2 =>
      obtain ⟨t, e⟩ := r1
      subst e
      exact .cons n t (ih r2)
section
variable {X : Cx} {e : Expr} {te : TE} {lo hi : Option Expr} {tl th : TO} {pos p2 : Pos}
def SlR (X : Cx) (r : V → Option Int → Option Int → Hp → VK → Prop) : Prop :=
  ∀ (pins : List (Addr × Obj)) (s : Shared) (σ : St) (H : Hp) (x : V) (v vl vu : Value) (lo hi : Option Int) (sl : Addr) (Q : VK), Inv X pins σ H s → RelV x v → s.heap.IsSliceOf sl vl vu .none → IsPart vl lo → IsPart vu hi → r x lo hi H Q →
    ∃ T id, typeLookup (.type T) "__getitem__" = pure (some (.builtin id)) ∧ s.TypeIs v T ∧ wpAny (model X.prog X.w) X.A (getItem v (.ref sl)) (EP X pins σ Q) X.xe s
theorem SlR.or {r r' : V → Option Int → Option Int → Hp → VK → Prop} (h : SlR X r) (h' : SlR X r') : SlR X (fun x lo hi H Q => r x lo hi H Q ∨ r' x lo hi H Q) := by
  intro pins s σ H x v vl vu lo hi sl Q I rx hs pl pu q
  rcases q with q | q
  · exact h pins s σ H x v vl vu lo hi sl Q I rx hs pl pu q
  · exact h' pins s σ H x v vl vu lo hi sl Q I rx hs pl pu q
def rLtT (K : PySem.W.Frag) : R2 := fun x y H Q => ∃ a b ns ms, x = .ref a ∧ y = .ref b ∧ SqT K H a (ns.map V.int) ∧ SqT K H b (ms.map V.int) ∧ Q (.bl (HT.lexLt ns ms)) H
end
end L2
namespace L2
open PySem PySem.Spec PyProof.Rows
def ixN (n : Nat) (i : Int) : Option Nat := if 0 ≤ i then (if i < n then some i.toNat else none) else if -(n : Int) ≤ i then some (i + n).toNat else none
def atI {α : Type} (xs : List α) (i : Int) : Option α := (ixN xs.length i).bind fun j => xs[j]?
theorem ixN_seq {n : Nat} {i : Int} {j : Nat} (h : ixN n i = some j) : seqIndex? i n = some j ∧ j < n ∧ -(n : Int) ≤ i ∧ i < n := by
  unfold ixN at h
  by_cases h0 : 0 ≤ i
  · rw [if_pos h0] at h
    by_cases h1 : i < n
    · rw [if_pos h1] at h
      have e : i.toNat = j := Option.some.inj h
      exact ⟨by rw [seqIndex_of h0 h1, e], by omega, by omega, h1⟩
    · rw [if_neg h1] at h; cases h
  · rw [if_neg h0] at h
    by_cases h1 : -(n : Int) ≤ i
    · rw [if_pos h1] at h
      have e : (i + n).toNat = j := Option.some.inj h
      exact ⟨by rw [seqIndex_neg (by omega) h1, e], by omega, h1, by omega⟩
    · rw [if_neg h1] at h; cases h
theorem atI_get {α : Type} {xs : List α} {i : Int} {v : α} (h : atI xs i = some v) : ∃ j, seqIndex? i xs.length = some j ∧ xs[j]? = some v ∧ j < xs.length ∧ -(xs.length : Int) ≤ i ∧ i < xs.length := by
  unfold atI at h
  cases e : ixN xs.length i with
  | none => rw [e] at h; cases h
  | some j =>
    rw [e] at h
    obtain ⟨h1, h2, h3, h4⟩ := ixN_seq e
    exact ⟨j, h1, h, h2, h3, h4⟩
theorem atI_nat {α : Type} {xs : List α} {j : Nat} {v : α} (h : xs[j]? = some v) : atI xs (j : Int) = some v := by
  have hj : j < xs.length := (List.getElem?_eq_some_iff.mp h).1
  have e : ixN xs.length (j : Int) = some j := by
    unfold ixN
    rw [if_pos (by omega), if_pos (by omega)]; simp
  unfold atI; rw [e]; exact h
def PlainIx (b : Expr) : Prop := ∀ o i, subscripted b false o i = operate [o, i] (getItem o i)
def IxR (X : Cx) (r : R2) : Prop :=
  ∀ (value slice : Expr) (pins : List (Addr × Obj)) (s : Shared) (σ : St) (H : Hp) (x y : V) (v u : Value) (Q : VK), Inv X pins σ H s → RelV x v → RelV y u → r x y H Q →
    subscripted slice false v u = operate [v, u] (getItem v u) → wpAny (model X.prog X.w) X.A (subscriptTail value slice v u) (EP X pins σ Q) X.xe s
def MtR (X : Cx) (id : String) (r : V → List V → Hp → VK → Prop) : Prop :=
  ∀ (pins : List (Addr × Obj)) (s : Shared) (σ : St) (H : Hp) (x : V) (xs : List V) (v : Value) (us : List Value) (Q : VK), Inv X pins σ H s → RelV x v → Vals xs us → r x xs H Q →
    wpAny (model X.prog X.w) X.A (call (.builtin id) (v :: us)) (EP X pins σ Q) X.xe s
section
variable {X : Cx} {a b : Expr} {ta tb : TE} {pos : Pos}
theorem IxR.or {r r' : R2} (h : IxR X r) (h' : IxR X r') : IxR X (fun x y H Q => r x y H Q ∨ r' x y H Q) := by
  intro value slice pins s σ H x y v u Q I rx ry q hs
  rcases q with q | q
  · exact h value slice pins s σ H x y v u Q I rx ry q hs
  · exact h' value slice pins s σ H x y v u Q I rx ry q hs
theorem MtR.or {id : String} {r r' : V → List V → Hp → VK → Prop} (h : MtR X id r) (h' : MtR X id r') : MtR X id (fun x xs H Q => r x xs H Q ∨ r' x xs H Q) := by
  intro pins s σ H x xs v us Q I rx rs q
  rcases q with q | q
  · exact h pins s σ H x xs v us Q I rx rs q
  · exact h' pins s σ H x xs v us Q I rx rs q
theorem pe_ix {r : R2} (hr : IxR X r) (ha : PE X a ta) (hb : PE X b tb) (hs : PlainIx b) : PE X (.Subscript a b pos) (tOp r ta tb) := by
  intro pins s σ H Q I h
  exact Subscript_ (binT ha hb I h fun v u s2 x y H2 I2 rx ry q => hr a b pins s2 σ H2 x y v u Q I2 rx ry q (hs _ _))
def rIxL (K : PySem.W.Frag) : R2 := fun x y H Q => ∃ p xs i v, x = .ref p ∧ y = .int i ∧ SqL K H p xs ∧ atI xs i = some v ∧ Q v H
def rIxT (K : PySem.W.Frag) : R2 := fun x y H Q => ∃ p xs i v, x = .ref p ∧ y = .int i ∧ SqT K H p xs ∧ atI xs i = some v ∧ Q v H
theorem ix_list : IxR X (rIxL X.K) := by
  intro value slice pins s σ H x y v u Q I rx ry h hs
  obtain ⟨p, xs, i, z, rfl, rfl, hq, he, q⟩ := h
  cases rx
  obtain ⟨t, rfl⟩ := ry
  obtain ⟨its, r, pl, hz⟩ := I.list hq
  obtain ⟨j, h1, h2, h3, h4, h5⟩ := atI_get he
  obtain ⟨w, ew, rw'⟩ := r.get h2
  have hl := r.length
  have hn := line63
  have fin : EP X pins σ Q w s := ⟨z, H, I, rw', q⟩
  by_cases h0 : 0 ≤ i
  · have hj : i.toNat = j := by
      rw [seqIndex_of h0 h5] at h1
      exact Option.some.inj h1
    exact item_listR pl.isList h0 (by omega) (by rw [hj]; simpa using ew) fin hs
  · have hj : (i + (its.toArray.size : Int)).toNat = j := by
      rw [seqIndex_neg (by omega) h4] at h1
      rw [List.size_toArray, ← hl]
      exact Option.some.inj h1
    exact subscriptTail_builtinR (x := w) pl.isList.typeIs slot_list_getitem.lookup
      (wpAny_getItem_list_neg (Q := fun r s' => r = w ∧ EP X pins σ Q r s') pl.isList (by omega) (by rw [List.size_toArray] <;> omega) (by omega) (by rw [hj]; simpa using ew) ⟨rfl, fin⟩) hs
theorem ix_tup : IxR X (rIxT X.K) := by
  intro value slice pins s σ H x y v u Q I rx ry h hs
  obtain ⟨p, xs, i, z, rfl, rfl, hq, he, q⟩ := h
  cases rx
  obtain ⟨t, rfl⟩ := ry
  obtain ⟨its, r, pl, hz⟩ := I.tuple hq
  obtain ⟨j, h1, h2, h3, h4, h5⟩ := atI_get he
  obtain ⟨w, ew, rw'⟩ := r.get h2
  have hl := r.length
  have hn := line63
  have fin : EP X pins σ Q w s := ⟨z, H, I, rw', q⟩
  exact subscriptTail_builtinR (x := w) pl.typeIs slot_tuple_getitem.lookup
    (getItem_tuple (j := j) (Q := fun r s' => r = w ∧ EP X pins σ Q r s') pl (by omega) (by omega) (by rw [List.size_toArray, ← hl]; exact h1) (by simpa using ew) ⟨rfl, fin⟩) hs
theorem Inv.lst {pins : List (Addr × Obj)} {σ : St} {H : Hp} {s : Shared} {p : Addr} {xs : List V} (I : Inv X pins σ H s) (h : H p = some (.lst xs)) :
    ∃ (its : List Value) (n : Nat), Vals xs its ∧ s.heap.get? p = some { cls := .type "list", data := .seq its.toArray n } ∧ xs.length ≤ sizeLine := by
  obtain ⟨z, its, n, r, e⟩ := I.hok p _ h
  exact ⟨its, n, r, e, z⟩
theorem call_len_seq : CallR X (.builtin "len") (fun xs H Q => ∃ p ys, xs = [.ref p] ∧ (SqL X.K H p ys ∨ SqT X.K H p ys) ∧ Q (.int ys.length) H) := by
  intro pins s σ H xs us Q I r h
  obtain ⟨p, ys, rfl, hq, q⟩ := h
  obtain ⟨u, rfl, rx⟩ := vals1 r
  cases rx
  have hn := line63
  rcases hq with hq | hq
  · obtain ⟨its, r', pl, hz⟩ := I.list hq
    have hlen := r'.length
    exact Calls.call_len_list pl.isList (by simp only [List.size_toArray] <;> omega) ⟨.int ys.length, H, I.tok _, ⟨s.toks + 1, by rw [List.size_toArray, hlen]⟩, q⟩
  · obtain ⟨its, r', pl, hz⟩ := I.tuple hq
    have hlen := r'.length
    exact len_tuple pl (by simp only [List.size_toArray] <;> omega) ⟨.int ys.length, H, I.tok _, ⟨s.toks + 1, by rw [List.size_toArray, hlen]⟩, q⟩
theorem CallR.or {f : Value} {r r' : List V → Hp → VK → Prop} (h : CallR X f r) (h' : CallR X f r') : CallR X f (fun xs H Q => r xs H Q ∨ r' xs H Q) := by
  intro pins s σ H xs us Q I rs q
  rcases q with q | q
  · exact h pins s σ H xs us Q I rs q
  · exact h' pins s σ H xs us Q I rs q
variable {o e : Expr} {es : List Expr} {to : TE} {t : TA} {name : Str} {apos cpos : Pos} {T id : String} {r : V → List V → Hp → VK → Prop}
end
end L2
namespace L2
open PySem PySem.Spec PyProof.Rows
def MtM (X : Cx) (id : String) (r : V → List V → Hp → VK → Prop) : Prop :=
  ∀ (pins : List (Addr × Obj)) (s : Shared) (σ : St) (H : Hp) (x : V) (xs : List V) (v : Value) (us : List Value) (Q : VK), Inv X pins σ H s → RelV x v → Vals xs us → r x xs H Q →
    wpAny (model X.prog X.w) X.A (call (.builtin id) (v :: us)) (EP X pins σ Q) X.xe s
theorem Vals.one : ∀ {x : V} {us : List Value}, Vals [x] us → ∃ u, us = [u] ∧ RelV x u
  | _, _, .cons r .nil => ⟨_, rfl, r⟩
theorem Vals.two : ∀ {x y : V} {us : List Value}, Vals [x, y] us → ∃ u v, us = [u, v] ∧ RelV x u ∧ RelV y v
  | _, _, _, .cons r (.cons q .nil) => ⟨_, _, rfl, r, q⟩
theorem Vals.zero : ∀ {us : List Value}, Vals [] us → us = []
  | _, .nil => rfl
section
variable {X : Cx} {pins : List (Addr × Obj)} {σ : St} {H : Hp} {s : Shared} {l b : Addr} {xs ys zs : List V}
theorem Inv.lset {its its' : List Value} {n : Nat} {f : Array Value → Array Value} {t' : Nat} (I : Inv X pins σ H s) (hH : H l = some (.lst xs))
    (e : s.heap.get? l = some { cls := .type "list", data := .seq its.toArray n }) (hf : f its.toArray = its'.toArray) (hv : Vals ys its') (hz : ys.length ≤ sizeLine) :
    Inv X pins σ (upd H l (.lst ys)) { s with heap := s.heap.update l (Obj.mapSeq f), toks := t' } := by
  have q := PySem.IsL.update e f
  rw [hf] at q
  refine I.write (x := l) (e := l) (by rw [hH]; exact trivial) (.inl rfl) (fun b' u hb hu => (Heap.get?_update_other s.heap (Obj.mapSeq f) (Ne.symm hb)).trans hu) ⟨_, q⟩ ?_
  exact ⟨hz, its', _, hv, q⟩
theorem Inv.lnew {its : List Value} {t' : Nat} (I : Inv X pins σ H s) (hv : Vals ys its) (hz : ys.length ≤ sizeLine) :
    Inv X pins σ (upd H s.heap.objs.size (.lst ys)) { s with heap := s.heap.push { cls := .type "list", data := .seq its.toArray }, toks := t' } :=
  I.laid (fun _ _ q => Heap.get?_push_of_some _ q) (Nat.le_refl _) ⟨hz, its, 0, hv, Heap.get?_push_size _ rfl⟩
theorem Inv.fresh (I : Inv X pins σ H s) : H s.heap.objs.size = none := I.hok.fresh (Nat.le_refl _)
theorem Inv.lstM (I : Inv X pins σ H s) (hH : H l = some (.lst xs)) : xs.length ≤ sizeLine ∧ ∃ (its : List Value) (n : Nat), Vals xs its ∧ xs.length = its.length ∧ s.heap.get? l = some { cls := .type "list", data := .seq its.toArray n } := by
  obtain ⟨z, its, n, r, e⟩ := I.hok l _ hH
  exact ⟨z, its, n, r, r.length, e⟩
end
section
variable {X : Cx}
def rAppend : V → List V → Hp → VK → Prop := fun x vs H Q => ∃ l xs y, x = .ref l ∧ vs = [y] ∧ H l = some (.lst xs) ∧ xs.length < sizeLine ∧ Q .non (upd H l (.lst (xs ++ [y])))
theorem mt_append : MtM X "list.append" rAppend := by
  intro pins s σ H x vs v us Q I rx rv h
  obtain ⟨l, xs, y, rfl, rfl, hH, hz, q⟩ := h
  cases rx
  obtain ⟨u, rfl, ru⟩ := rv.one
  obtain ⟨z, its, n, r, hl, e⟩ := I.lstM hH
  refine call_meets F.slot_list_append ⟨_, e, rfl⟩ F.entry_list_append (F.args_list_append_2 _ _) (PySem.list_append l its.toArray n u (by rw [List.size_toArray]; omega)) ⟨e, ?_⟩
  refine ⟨.non, _, I.lset (its' := its ++ [u]) hH e (by simp) (r.append (.cons ru .nil)) ?_, rfl, q⟩
  rw [List.length_append, List.length_singleton]
  omega
def rCat : R2 := fun x y H Q => ∃ l b xs zs, x = .ref l ∧ y = .ref b ∧ H l = some (.lst xs) ∧ H b = some (.lst zs) ∧ xs.length + zs.length ≤ sizeLine ∧ ∀ p, H p = none → Q (.ref p) (upd H p (.lst (xs ++ zs)))
theorem op_cat : OpR X (binaryOp .Add) rCat := by
  intro pins s σ H x y v u Q I rx ry h
  obtain ⟨l, b, xs, zs, rfl, rfl, hH, hB, hz, q⟩ := h
  cases rx
  cases ry
  obtain ⟨z, its, n, r, hl, e⟩ := I.lstM hH
  obtain ⟨z2, its2, n2, r2, hl2, e2⟩ := I.lstM hB
  refine PySem.P.add_list e e2 ?_ (by rw [List.size_toArray, List.size_toArray]; omega)
  have ea : its.toArray ++ its2.toArray = (its ++ its2).toArray := by simp
  rw [ea]
  exact ⟨.ref _, _, I.lnew (t' := s.toks) (r.append r2) (by rw [List.length_append]; omega), rfl, q _ I.fresh⟩
end
section
variable {prog : Program} {w : World} {A : Around} {E : Value → Shared → Prop} {s : Shared}
end
section
variable {X : Cx}
end
end L2
namespace Att
open PySem PySem.W PySem.Calls PyProof.Rows
theorem ints_of_wellAll {P : Params} {h : Heap} : ∀ (ns : List Int) (vs : List Value), WellAll P h vs (ns.map WData.int) → IntsAre vs ns := by
  intro ns
  induction ns with
  | nil =>
    intro vs w
    rw [List.map_nil] at w
    cases w
    exact .nil
  | cons n ns ih =>
    intro vs w
    rw [List.map_cons] at w
    cases w with
    | cons a b =>
      cases a
      exact .cons _ _ (ih _ b)
theorem script_of {l : OpenLaw} {n : Nat} (hn : l.most = some n) {P : Params} {h : Heap} {args : List WData} {vals : List Value}
    (hpre : l.row.toRowW.claim.pre args = true) (hwl : WellAll P h vals args) :
    ∃ a vs ns, vals = [Value.ref a] ∧ args = [WData.list (ns.map WData.int)] ∧ h.get? a = some { cls := .type "list", data := .seq vs.toArray } ∧ IntsAre vs ns ∧ ns.length ≤ n := by
  have hsh : WShape.hasAll [] args [.list .int] = true := (pre_splitW hpre).1
  have hc : l.pre.holds [] { args := args } = true := (pre_splitW hpre).2
  obtain ⟨d, r, rfl, h1, h2⟩ := hasAllW_cons hsh
  obtain rfl := hasAllW_nil h2
  obtain ⟨xs, rfl, h3⟩ := hasW_list h1
  obtain ⟨ns, rfl⟩ := items_int h3
  have hlen : ns.length ≤ n := by
    unfold OpenLaw.pre at hc
    have h4 : (WTm.not (.lt (.lit (.int (n : Int))) (.len (.arg 0)))).holds [] { args := [.list (ns.map .int)] } = true := by
      have h4 := (holds_andW hc).1
      rw [hn] at h4
      exact h4
    have h5 := condW_of h4 (w_not (w_lt w_lit (w_len_list (w_arg rfl))))
    rw [List.length_map] at h5
    refine Nat.le_of_not_lt fun q => ?_
    have q' : (n : Int) < ((ns.length : Nat) : Int) := by omega
    first
      | (rw [decide_eq_true q'] at h5; exact absurd h5 (by decide))
      | (simp at h5; omega)
  cases hwl with
  | cons w1 w2 =>
    cases w2
    cases w1 with
    | list ho hall => exact ⟨_, _, ns, rfl, rfl, ho, ints_of_wellAll ns _ hall, hlen⟩
theorem post_true (l : OpenLaw) (args : List WData) : l.row.toRowW.claim.post args (.bool true) args = true :=
  postW_of (r := l.row.toRowW) (X := (true == true))
    (show WShape.has [] (.bool true) .bool = true by first | rfl | decide | simp [WShape.has, WShape.arms, WShape.armsAll])
    (show (WTm.eq .res (.lit (.bool true))).value [] { args := args, res := some (.bool true), after := args } = some (.bool (true == true)) from w_eq_bool (w_res rfl) w_lit) rfl
theorem attach_call {l : OpenLaw} {n : Nat} {q : Program} {loose : List Str} {XP : (Str → Option Value) → Heap → Prop} {YP : World → Heap → Prop} {d : DefRec}
    (hn : l.most = some n) (hdf : d.params.defaults = [])
    (call : ∀ (w : World) (s₀ s₁ : Shared) (mg mb : Str → Option Value) (fa : Addr) (o : Obj) (pm cd doc : Value) (a : Addr) (vs : List Value) (ns : List Int),
      Ground q loose [] XP w s₀ mg mb s₁.heap → YP w s₁.heap →
      s₁.heap.get? fa = some o → o.data = .func (docDef d.name d.params d.body d.scope pm cd doc) → s₁.heap.CodeRec cd d.name → mg d.name = some (.ref fa) →
      s₁.heap.get? a = some { cls := .type "list", data := .seq vs.toArray } → IntsAre vs ns → ns.length ≤ n → s₁.gens = #[] →
      codeAny (model l.prog w) callerA (.call (.ref fa) ⟨[.ref a], []⟩) (fun r s' => r = .ok (.ret (.bool true)) ∧ OldK s₁.heap s'.heap ∧ s'.os = s₁.os ∧ AllBare s'.gens) s₁) :
    WalkO q loose XP YP l.row.toRowW d [] (fun f vs => PySem.call f vs) := by
  intro w s₀ s₁ mg mb G Y fa o pm cd doc dV kV ho hd hcd hD hmg hg args vals as hpre hlay hrd hwl hlo
  obtain rfl : dV = .none := Dflts.none hD hdf
  obtain rfl : kV = .none := Dflts.noKw hD
  obtain ⟨a, vs, ns, rfl, rfl, hobj, hints, hlen⟩ := script_of hn hpre hwl
  refine enter_call (codeAny_mono (call w s₀ s₁ mg mb fa o pm cd doc a vs ns G Y ho (fd_plain hd) hcd hmg hobj hints hlen hg) fun r s' hq => ?_)
  obtain ⟨rfl, h2, h3, h4⟩ := hq
  exact ⟨.inl ⟨.bool true, .bool true, [], rfl, fun _ => rfl, .bool true, post_true l _, fun _ => ⟨List.Pairwise.nil, fun _ hm => (nomatch hm)⟩⟩, h2, h3, h4⟩
section
variable {prog : Program} {w : World} {A : Around} {E : Value → Shared → Prop} {s : Shared} {K : Frag}
end
end Att
namespace L2
open PySem PySem.Spec PyProof.Rows
theorem vals_ints : ∀ {vs : List Value} {ns : List Int}, IntsAre vs ns → Vals (ns.map V.int) vs
  | _, _, .nil => .nil
  | _, _, .cons n t h => .cons ⟨t, rfl⟩ (vals_ints h)
def Only (H : Hp) : Prop := ∀ b, H b = none ∨ ∃ o xs, H b = some (.frz o (.lst xs))
theorem law_call {P : Program} {w : World} {K : PySem.W.Frag} {mg mb : Str → Option Value} {CX : CXT} {k : Nat} {fa a : Addr} {fd : FuncData} {x : Str} {sp : Sp} {s₁ : Shared} {vs : List Value} {ns : List Int}
    (KX : K.In s₁.heap) (hns : s₁.heap.Ns mainGlobals mg) (hb : s₁.heap.Ns builtinsNs mb) (hbb : ∀ x : Str, x ≠ "__name__" → mb x = bootBuiltins x) (hlim : s₁.heap.NoLimit) (hg : s₁.gens = #[])
    (ha : s₁.heap.get? a = some { cls := .type "list", data := .seq vs.toArray }) (hi : IntsAre vs ns) (hl : ns.length ≤ sizeLine) (hr : Room k callerA)
    (F : ∀ base : Heap, K.In base → base.Ns mainGlobals mg → FnOk P w K mg base CX k fa fd [x] sp) (hbind : ∀ (s : Shared) (u : Value), BindsTo s fd ⟨[u], []⟩ [(x, u)])
    (hsp : ∀ H : Hp, Only H → SqL K H a (ns.map V.int) → sp [.ref a] H (fun v _ => v = .bl true) fun _ _ _ => False)
    (hCX : ∀ H e s', CX [] H s₁ (fun _ _ _ => False) e s' → False) :
    codeAny (model P w) callerA (.call (.ref fa) ⟨[.ref a], []⟩) (fun r s' => r = .ok (.ret (.bool true)) ∧ OldK s₁.heap s'.heap ∧ s'.os = s₁.os ∧ AllBare s'.gens) s₁ := by
  have rv := vals_ints hi
  have lenV := hi.length
  have core : ∀ H : Hp, Only H → SqL K H a (ns.map V.int) → HOk P w H s₁.heap → (∀ b, H b ≠ none → b = a) → (H a ≠ none → K.lookup a = none) →
      codeAny (model P w) callerA (.call (.ref fa) ⟨[.ref a], []⟩) (fun r s' => r = .ok (.ret (.bool true)) ∧ OldK s₁.heap s'.heap ∧ s'.os = s₁.os ∧ AllBare s'.gens) s₁ := by
    intro H hO hS hok hA hK
    have base_of : ∀ {b : Addr} {o : Obj}, s₁.heap.get? b = some o → H b = none → (hidT s₁.heap H).get? b = some o := fun e n => hidT_get e n
    have noA : ∀ {b : Addr} {o : Obj} {es : Array DictEntry} {ep : Nat}, s₁.heap.get? b = some o → o.data = .dict es ep → H b = none := fun {b o es ep} e d => by
      cases q : H b with
      | none => rfl
      | some u =>
        have e' : b = a := hA b (by rw [q]; simp)
        subst e'
        rw [ha] at e; cases e
        have d' : Data.seq vs.toArray _ = Data.dict es ep := d
        cases d'
    have nsK : ∀ {b : Addr} {m : Str → Option Value}, s₁.heap.Ns b m → (hidT s₁.heap H).Ns b m := fun {b m} ⟨o, es, ep, e, d, r⟩ => ⟨o, es, ep, base_of e (noA e d), d, r⟩
    have hKb : K.In (hidT s₁.heap H) := fun b o e => base_of (KX b o e) (by
      cases q : H b with
      | none => rfl
      | some u =>
        have e' : b = a := hA b (by rw [q]; simp)
        subst e'
        rw [hK (by rw [q]; simp)] at e; cases e)
    have hM : Mod K mg (hidT s₁.heap H) := ⟨hKb, nsK hns, ⟨mb, nsK hb, hbb⟩, let ⟨mc, h1, h2⟩ := hlim; ⟨mc, nsK h1, h2⟩⟩
    have e0 : Env0 P w K mg (hidT s₁.heap H) callerA [] s₁ H := ⟨rfl, hM, fun b o e => of_hidT e, Nat.le_of_eq (hidT_size _ _), trivial, fun b hb => absurd (show b ∈ ([] : List Addr) from hb) (by simp), hok, .of_eq hg⟩
    refine codeAny_mono ((F _ hKb (nsK hns)).run callerA [] s₁ H ⟨[.ref a], []⟩ [.ref a] [.ref a] _ _ hr e0 (hbind s₁ (.ref a)) (.cons rfl .nil) (hsp H hO hS)) fun r s' h => ?_
    cases r with
    | error e => exact (hCX H e s' h).elim
    | ok fl =>
      cases fl with
      | next => exact False.elim h
      | brk => exact False.elim h
      | cont => exact False.elim h
      | ret u =>
        obtain ⟨v, H', os, bare, un, hok', r', q⟩ := h
        have q' : v = .bl true := q
        subst q'
        obtain rfl : u = Value.bool true := r'
        refine ⟨rfl, OldK.of_keep fun b o e => ?_, os, bare⟩
        cases q : H b with
        | none => exact un.keep b o e q (by intro z; exact absurd (show b ∈ ([] : List Addr) from z) (by simp)) (by simp)
        | some u =>
          rcases hO b with z | ⟨ob, xs, z⟩
          · rw [q] at z; cases z
          · have z2 := un.frzs b ob _ z
            obtain ⟨e1, _⟩ := hok b _ z
            obtain ⟨e2, _⟩ := hok' b _ z2
            rw [e] at e1; cases e1
            exact e2
  cases hk : K.lookup a with
  | some o =>
    have e := KX a o hk
    rw [ha] at e
    cases e
    refine core (fun _ => none) (fun _ => .inl rfl) (.inr ⟨_, vs.toArray, _, hk, rfl, rfl, rfl, by rw [List.size_toArray, lenV]; exact hl, by simpa using rv⟩) (fun b u z => by have z' : (none : Option HO) = some u := z; cases z') (fun b z => absurd rfl z) fun z => absurd rfl z
  | none =>
    refine core (fun b => if b = a then some (.frz { cls := .type "list", data := .seq vs.toArray } (.lst (ns.map V.int))) else none) (fun b => ?_) (.inl (.inr ⟨{ cls := .type "list", data := .seq vs.toArray }, if_pos rfl⟩)) (fun b u z => ?_) (fun b z => ?_) fun _ => hk
    · by_cases hb : b = a
      · exact .inr ⟨_, _, if_pos hb⟩
      · exact .inl (if_neg hb)
    · by_cases hb : b = a
      · have z' := (if_pos hb).symm.trans z
        cases z'
        subst hb
        exact ⟨ha, by rw [List.length_map]; exact hl, vs, _, rv, ha⟩
      · have z' := (if_neg hb).symm.trans z
        cases z'
    · by_cases hb : b = a
      · exact hb
      · exact absurd (if_neg hb) z
end L2
namespace L2
open PySem PySem.Spec PyProof.Rows
theorem walk_of {l : PySem.W.OpenLaw} {n k : Nat} {q : Program} {loose : List Str} {XP : (Str → Option Value) → Heap → Prop} {YP : World → Heap → Prop} {d : DefRec} {K : Params → PySem.W.Frag} {CX : World → CXT} {sp : World → Sp} {x : Str}
    (hn : l.most = some n) (hn2 : n ≤ sizeLine) (hdf : d.params.defaults = []) (hr : Room k callerA)
    (hY : ∀ (w : World) (h : Heap), YP w h → (K w.params).In h)
    (F : ∀ (w : World) (mg : Str → Option Value) (fa : Addr) (h : Heap), (K w.params).In h → h.Ns mainGlobals mg → mg d.name = some (.ref fa) →
      ∃ fd : FuncData, (∀ (s : Shared) (u : Value), BindsTo s fd ⟨[u], []⟩ [(x, u)]) ∧
        ∀ base : Heap, (K w.params).In base → base.Ns mainGlobals mg → FnOk l.prog w (K w.params) mg base (CX w) k fa fd [x] (sp w))
    (hsp : ∀ (w : World) (H : Hp) (a : Addr) (ns : List Int), ns.length ≤ n → Only H → SqL (K w.params) H a (ns.map V.int) → sp w [.ref a] H (fun v _ => v = .bl true) fun _ _ _ => False)
    (hCX : ∀ (w : World) (H : Hp) (s : Shared) (e : Value) (s' : Shared), CX w [] H s (fun _ _ _ => False) e s' → False) :
    PySem.W.WalkO q loose XP YP l.row.toRowW d [] (fun f vs => PySem.call f vs) := by
  refine Att.attach_call hn hdf fun w s₀ s₁ mg mb fa o pm cd doc a vs ns G Y ho hd hcd hmg hobj hints hlen hg => ?_
  have KX := hY w _ Y
  obtain ⟨fd, hb, hF⟩ := F w mg fa _ KX G.T.g hmg
  exact law_call KX G.T.g G.T.b G.T.builtins G.T.nolimit hg hobj hints (Nat.le_trans hlen hn2) hr hF hb (fun H hO hS => hsp w H a ns hlen hO hS) fun H e s' => hCX w H s₁ e s'
theorem walk_ofK {l : PySem.W.OpenLaw} {n k : Nat} {q : Program} {loose : List Str} {XP : (Str → Option Value) → Heap → Prop} {YP : World → Heap → Prop} {d : DefRec} {K : Params → PySem.W.Frag} {CX : CXT} {sp : PySem.W.Frag → Sp} {x : Str}
    (hn : l.most = some n) (hn2 : n ≤ sizeLine) (hdf : d.params.defaults = []) (hr : Room k callerA)
    (hY : ∀ (w : World) (h : Heap), YP w h → (K w.params).In h)
    (F : ∀ (w : World) (mg : Str → Option Value) (fa : Addr) (h : Heap), (K w.params).In h → h.Ns mainGlobals mg → mg d.name = some (.ref fa) →
      ∃ fd : FuncData, (∀ (s : Shared) (u : Value), BindsTo s fd ⟨[u], []⟩ [(x, u)]) ∧
        ∀ base : Heap, (K w.params).In base → base.Ns mainGlobals mg → FnOk l.prog w (K w.params) mg base CX k fa fd [x] (sp (K w.params)))
    (hsp : ∀ (K : PySem.W.Frag) (H : Hp) (a : Addr) (ns : List Int), ns.length ≤ n → Only H → SqL K H a (ns.map V.int) → sp K [.ref a] H (fun v _ => v = .bl true) fun _ _ _ => False)
    (hCX : ∀ (H : Hp) (s : Shared) (e : Value) (s' : Shared), CX [] H s (fun _ _ _ => False) e s' → False) :
    PySem.W.WalkO q loose XP YP l.row.toRowW d [] (fun f vs => PySem.call f vs) :=
  walk_of (K := K) (CX := fun _ => CX) (sp := fun w => sp (K w.params)) hn hn2 hdf hr hY F (fun w H a ns h1 h2 h3 => hsp (K w.params) H a ns h1 h2 h3) fun _ H s e s' => hCX H s e s'
end L2
namespace L2
open PySem PySem.Spec PyProof.Rows
def inClass (s : Stmt) (j : Nat) : Stmt := match s with
  | .ClassDef _ _ _ body _ _ _ _ _ _ _ => body.getD j (.Pass ⟨0, 0, 0, 0⟩)
  | _ => .Pass ⟨0, 0, 0, 0⟩
def defArgs (s : Stmt) : Arguments := match s with
  | .FunctionDef _ a _ _ _ _ _ _ _ _ => a
  | _ => { posonlyargs := [], args := [], vararg := none, kwonlyargs := [], kw_defaults := [], kwarg := none, defaults := [] }
def defBody (s : Stmt) : List Stmt := match s with
  | .FunctionDef _ _ b _ _ _ _ _ _ _ => b
  | _ => []
def defScope (s : Stmt) : Scope := match s with
  | .FunctionDef _ _ _ _ _ _ sc _ _ _ => sc
  | _ => { kind := .function, names := [], isGenerator := false, isCoroutine := false }
abbrev CX0 : CXT := fun _ _ _ _ _ _ => False
abbrev E0 : XK := fun _ _ _ => False
theorem pass0 {X : Cx} : Passes CX0 X E0 := fun _ _ _ _ _ _ _ h => h.elim
structure Fun (K : PySem.W.Frag) (x qual : Str) (st : Stmt) (f : Addr) (fd : FuncData) : Prop where
  ex : ∃ (oc : Value) (od : Option Addr) (kV doc pm : Value) (an : Option Addr) (cdv ct : Value) (osl : Array (Option Value)),
    fd = PySem.W.fnOf x qual (defArgs st) (defBody st) (defScope st) .none kV doc pm an cdv ct ∧ K.lookup f = some ⟨oc, od, .func fd, osl⟩ ∧ PySem.W.codeIn K cdv qual = true
  kp : PySem.W.keepIn K (.ref f) = true
section
variable {P : Program} {w : World} {K : PySem.W.Frag} {mg : Str → Option Value} {base : Heap}
theorem Fun.ok {x qual : Str} {st : Stmt} {f : Addr} {fd : FuncData} {N ps : List Str} {k : Nat} {sp : Sp} (F : Fun K x qual st f fd) (S : FnScope N ps (defScope st)) (len : ∀ vs H Q E, sp vs H Q E → vs.length = ps.length)
    (hbody : ∀ (cdv : Value) (A : Around) (outer : List Env) (s : Shared) (H : Hp) (vs : List V) (Q : VK) (E : XK), Room k (A.deeper (envOfC qual (defScope st) s.heap.objs.size f cdv)) → sp vs H Q E →
      ∃ t, PSs (cxOf CX0 P w K mg base N qual (defScope st) f cdv A outer s H E).nox (defBody st) t ∧ t { nx := fun _ H' => Q .non H', rt := Q } (start N vs) H) : FnOk P w K mg base CX0 (k + 1) f fd ps sp := by
  obtain ⟨oc, od, kV, doc, pm, an, cdv, ct, osl, rfl, lk, hcd⟩ := F.ex
  refine fn_of lk hcd S len fun A outer s H vs Q E hr hsp => ?_
  obtain ⟨t, h, q⟩ := hbody cdv A outer s H vs Q E hr hsp
  exact ⟨t, h.nox, q⟩
theorem Fun.binds {x qual : Str} {st : Stmt} {f : Addr} {fd : FuncData} {ps : List Str} (F : Fun K x qual st f fd)
    (h : ∀ (kV doc pm : Value) (an : Option Addr) (cdv ct : Value) (us : List Value), us.length = ps.length → bindArgs (PySem.W.fnOf x qual (defArgs st) (defBody st) (defScope st) .none kV doc pm an cdv ct) ⟨us, []⟩ = pure (ps.zip us)) : Binds K fd ps [] := by
  obtain ⟨oc, od, kV, doc, pm, an, cdv, ct, osl, rfl, lk, hcd⟩ := F.ex
  exact .all (h kV doc pm an cdv ct)
theorem fun_mk {x qual : Str} {st : Stmt} {f : Addr} {oc : Value} {od an : Option Addr} {osl : Array (Option Value)} {kV doc pm cdv ct : Value} (l : K.lookup f = some ⟨oc, od, .func (PySem.W.fnOf x qual (defArgs st) (defBody st) (defScope st) .none kV doc pm an cdv ct), osl⟩)
    (c : PySem.W.codeIn K cdv qual = true) (k : PySem.W.keepIn K (.ref f) = true) : Fun K x qual st f (PySem.W.fnOf x qual (defArgs st) (defBody st) (defScope st) .none kV doc pm an cdv ct) := ⟨⟨oc, od, kV, doc, pm, an, cdv, ct, osl, rfl, l, c⟩, k⟩
end
theorem small1000 {n : Nat} (h : n ≤ 1000) : n < sizeLine := Nat.lt_of_le_of_lt h (by decide)
section
variable {X : Cx}
theorem pv (i : Nat) {x : Str} {pos : Pos} (hN : X.N[i]? = some x := by rfl) (hv : Vis X.env.scope x := by first | exact Or.inl rfl | exact Or.inr (Or.inl rfl) | exact Or.inr (Or.inr rfl)) (hd : (x == ("__debug__" : Str)) = false := by decide)
    (hcd : (x == ("__classdict__" : Str)) = false := by decide) : PE X (.Name x pos) (tVar i) := pe_var hN hv hd hcd
end
theorem iteT {A B : Prop} (h : A) : if true = true then A else B := by
  rw [if_pos rfl]
  exact h
theorem ite2 {c A B : Prop} [Decidable c] (h1 : c → A) (h2 : ¬ c → B) : if c then A else B := by
  by_cases h : c
  · rw [if_pos h]
    exact h1 h
  · rw [if_neg h]
    exact h2 h
def Same (H H' : Hp) : Prop := ∀ b o, H b = some o → H' b = some o
theorem Same.refl (H : Hp) : Same H H := fun _ _ h => h
theorem Same.trans {H H1 H2 : Hp} (a : Same H H1) (b : Same H1 H2) : Same H H2 := fun c o h => b c o (a c o h)
theorem Same.free {H H' : Hp} (e : Same H H') {l : Addr} (h : H' l = Option.none) : H l = Option.none := by
  cases q : H l with
  | none => rfl
  | some o =>
    rw [e l o q] at h
    cases h
theorem Same.seq {K : PySem.W.Frag} {H H' : Hp} {a : Addr} {xs : List V} (e : Same H H') (h : SqL K H a xs) : SqL K H' a xs := by
  rcases h with (h | ⟨o, h⟩) | h
  · exact .inl (.inl (e _ _ h))
  · exact .inl (.inr ⟨o, e _ _ h⟩)
  · exact .inr h
end L2
set_option maxHeartbeats 4000000
namespace L3
open PySem PySem.Spec PyProof.Rows L2
abbrev St := L2.St
inductive D where
  | non | bl (b : Bool) | int (i : Int) | str (x : Str) | ty (n : String) | ref (a : Addr) | tup (xs : List D) | frl (xs : List D) | thg (n : String) | exc (C : Addr) (nm : Str) (xs : List D)
def Kl (K : PySem.W.Frag) (a : Addr) (xs : List V) : Prop :=
  ∃ (o : Obj) (its : Array Value) (n : Nat), K.lookup a = some o ∧ o.cls = .type "list" ∧ o.dict = none ∧ o.data = .seq its n ∧ its.size ≤ sizeLine ∧ Vals xs its.toList
def Fz (K : PySem.W.Frag) (H : Hp) (a : Addr) (xs : List V) : Prop := (∃ o, H a = some (.frz o (.lst xs))) ∨ Kl K a xs
theorem Fz.sq {K : PySem.W.Frag} {H : Hp} {a : Addr} {xs : List V} (h : Fz K H a xs) : SqL K H a xs := by
  rcases h with ⟨o, h⟩ | h
  · exact .inl (.inr ⟨o, h⟩)
  · exact .inr h
abbrev xO (C t : Addr) : Obj := { cls := .ref C, data := .fields #[.ref t, .none, .none, .none, .bool false, .none] }
abbrev yO (C t d : Addr) : Obj := { cls := .ref C, dict := some d, data := .fields #[.ref t, .none, .none, .none, .bool false, .none] }
def Xo (H : Hp) (C : Addr) (nm : Str) (o : Obj) (xs : List V) : Prop := (xs = [] ∧ ∃ t, o = xO C t) ∨ ∃ t dx od vx, xs = [vx] ∧ o = yO C t dx ∧ H dx = some (.frz od (.xd [(nm, vx)]))
mutual
def Dat (K : PySem.W.Frag) (H : Hp) : D → V → Prop
  | .non, v => v = .non
  | .bl b, v => v = .bl b
  | .int i, v => v = .int i
  | .str x, v => v = .str x
  | .ty n, v => v = .ty n
  | .ref a, v => v = .ref a
  | .tup ds, v => ∃ a xs, v = .ref a ∧ H a = some (.tup xs) ∧ Dats K H ds xs
  | .frl ds, v => ∃ a xs, v = .ref a ∧ Fz K H a xs ∧ Dats K H ds xs
  | .thg n, v => ∃ a o u, v = .ref a ∧ H a = some (.frz o u) ∧ o.cls = .type n
  | .exc C nm ds, v => ∃ a o u xs, v = .ref a ∧ H a = some (.frz o u) ∧ Xo H C nm o xs ∧ Dats K H ds xs
def Dats (K : PySem.W.Frag) (H : Hp) : List D → List V → Prop
  | [], xs => xs = []
  | d :: ds, xs => ∃ v vs, xs = v :: vs ∧ Dat K H d v ∧ Dats K H ds vs
end
structure Ext (H H' : Hp) : Prop where
  tup : ∀ b xs, H b = some (.tup xs) → H' b = some (.tup xs)
  frz : ∀ b o u, H b = some (.frz o u) → H' b = some (.frz o u)
theorem Ext.refl (H : Hp) : Ext H H := ⟨fun _ _ h => h, fun _ _ _ h => h⟩
theorem Ext.trans {H H1 H2 : Hp} (a : Ext H H1) (b : Ext H1 H2) : Ext H H2 := ⟨fun c xs h => b.tup c xs (a.tup c xs h), fun c o u h => b.frz c o u (a.frz c o u h)⟩
theorem Fz.mono {K : PySem.W.Frag} {H H' : Hp} {a : Addr} {xs : List V} (e : Ext H H') (h : Fz K H a xs) : Fz K H' a xs := by
  rcases h with ⟨o, h⟩ | h
  · exact .inl ⟨o, e.frz _ _ _ h⟩
  · exact .inr h
theorem Xo.mono {H H' : Hp} {C : Addr} {nm : Str} {o : Obj} {xs : List V} (e : Ext H H') (h : Xo H C nm o xs) : Xo H' C nm o xs := by
  rcases h with h | ⟨t, dx, od, vx, e1, e2, e3⟩
  · exact .inl h
  · exact .inr ⟨t, dx, od, vx, e1, e2, e.frz _ _ _ e3⟩
mutual
theorem Dat.mono {K : PySem.W.Frag} {H H' : Hp} (e : Ext H H') : ∀ (d : D) (v : V), Dat K H d v → Dat K H' d v
  | .non, v, h => by simpa [Dat] using h
  | .bl b, v, h => by simpa [Dat] using h
  | .int i, v, h => by simpa [Dat] using h
  | .str x, v, h => by simpa [Dat] using h
  | .ty n, v, h => by simpa [Dat] using h
  | .ref a, v, h => by simpa [Dat] using h
  | .tup ds, v, h => by
    obtain ⟨a, xs, e1, e2, e3⟩ := (show ∃ a xs, v = .ref a ∧ H a = some (.tup xs) ∧ Dats K H ds xs from by simpa only [Dat] using h)
    have := Dats.mono e ds xs e3
    simp only [Dat]
    exact ⟨a, xs, e1, e.tup _ _ e2, this⟩
  | .frl ds, v, h => by
    obtain ⟨a, xs, e1, e2, e3⟩ := (show ∃ a xs, v = .ref a ∧ Fz K H a xs ∧ Dats K H ds xs from by simpa only [Dat] using h)
    have := Dats.mono e ds xs e3
    simp only [Dat]
    exact ⟨a, xs, e1, e2.mono e, this⟩
  | .thg n, v, h => by
    obtain ⟨a, o, u, e1, e2, e3⟩ := (show ∃ a o u, v = .ref a ∧ H a = some (.frz o u) ∧ o.cls = .type n from by simpa only [Dat] using h)
    simp only [Dat]
    exact ⟨a, o, u, e1, e.frz _ _ _ e2, e3⟩
  | .exc C nm ds, v, h => by
    obtain ⟨a, o, u, xs, e1, e2, e3, e4⟩ := (show ∃ a o u xs, v = .ref a ∧ H a = some (.frz o u) ∧ Xo H C nm o xs ∧ Dats K H ds xs from by simpa only [Dat] using h)
    have := Dats.mono e ds xs e4
    simp only [Dat]
    exact ⟨a, o, u, xs, e1, e.frz _ _ _ e2, e3.mono e, this⟩
theorem Dats.mono {K : PySem.W.Frag} {H H' : Hp} (e : Ext H H') : ∀ (ds : List D) (xs : List V), Dats K H ds xs → Dats K H' ds xs
  | [], xs, h => by simpa [Dats] using h
  | d :: ds, xs, h => by
    obtain ⟨v, vs, e1, e2, e3⟩ := (show ∃ v vs, xs = v :: vs ∧ Dat K H d v ∧ Dats K H ds vs from by simpa only [Dats] using h)
    have h1 := Dat.mono e d v e2
    have h2 := Dats.mono e ds vs e3
    simp only [Dats]
    exact ⟨v, vs, e1, h1, h2⟩
end
section
variable {K : PySem.W.Frag} {H : Hp}
theorem dat_non {v : V} : Dat K H .non v ↔ v = .non := by simp only [Dat]
theorem dat_bl {b : Bool} {v : V} : Dat K H (.bl b) v ↔ v = .bl b := by simp only [Dat]
theorem dat_int {i : Int} {v : V} : Dat K H (.int i) v ↔ v = .int i := by simp only [Dat]
theorem dat_str {x : Str} {v : V} : Dat K H (.str x) v ↔ v = .str x := by simp only [Dat]
theorem dat_ty {n : String} {v : V} : Dat K H (.ty n) v ↔ v = .ty n := by simp only [Dat]
theorem dat_ref {a : Addr} {v : V} : Dat K H (.ref a) v ↔ v = .ref a := by simp only [Dat]
theorem dat_tup {ds : List D} {v : V} : Dat K H (.tup ds) v ↔ ∃ a xs, v = .ref a ∧ H a = some (.tup xs) ∧ Dats K H ds xs := by simp only [Dat]
theorem dat_frl {ds : List D} {v : V} : Dat K H (.frl ds) v ↔ ∃ a xs, v = .ref a ∧ Fz K H a xs ∧ Dats K H ds xs := by simp only [Dat]
theorem dat_exc {C : Addr} {nm : Str} {ds : List D} {v : V} : Dat K H (.exc C nm ds) v ↔ ∃ a o u xs, v = .ref a ∧ H a = some (.frz o u) ∧ Xo H C nm o xs ∧ Dats K H ds xs := by simp only [Dat]
theorem dats_nil {xs : List V} : Dats K H [] xs ↔ xs = [] := by simp only [Dats]
theorem dats_cons {d : D} {ds : List D} {xs : List V} : Dats K H (d :: ds) xs ↔ ∃ v vs, xs = v :: vs ∧ Dat K H d v ∧ Dats K H ds vs := by simp only [Dats]
theorem Dats.length : ∀ {ds : List D} {xs : List V}, Dats K H ds xs → ds.length = xs.length
  | [], xs, h => by rw [dats_nil.mp h]; rfl
  | d :: ds, xs, h => by
    obtain ⟨v, vs, rfl, _, h⟩ := dats_cons.mp h
    simp [Dats.length h]
theorem Dats.get : ∀ {ds : List D} {xs : List V} {i : Nat} {d : D}, Dats K H ds xs → ds[i]? = some d → ∃ v, xs[i]? = some v ∧ Dat K H d v
  | [], xs, _, _, _, e => by simp at e
  | d :: ds, xs, i, d', h, e => by
    obtain ⟨v, vs, rfl, h1, h2⟩ := dats_cons.mp h
    cases i with
    | zero => simp at e; subst e; exact ⟨v, rfl, h1⟩
    | succ i => exact Dats.get (i := i) h2 (by simpa using e)
theorem Dats.back : ∀ {ds : List D} {xs : List V} {i : Nat} {v : V}, Dats K H ds xs → xs[i]? = some v → ∃ d, ds[i]? = some d ∧ Dat K H d v
  | [], xs, i, v, h, e => by rw [dats_nil.mp h] at e; simp at e
  | d :: ds, xs, i, v', h, e => by
    obtain ⟨v, vs, rfl, h1, h2⟩ := dats_cons.mp h
    cases i with
    | zero => simp at e; subst e; exact ⟨d, rfl, h1⟩
    | succ i => exact Dats.back (i := i) h2 (by simpa using e)
theorem Dats.append : ∀ {ds es : List D} {xs ys : List V}, Dats K H ds xs → Dats K H es ys → Dats K H (ds ++ es) (xs ++ ys)
  | [], es, xs, ys, h, h' => by rw [dats_nil.mp h]; exact h'
  | d :: ds, es, xs, ys, h, h' => by
    obtain ⟨v, vs, rfl, h1, h2⟩ := dats_cons.mp h
    exact dats_cons.mpr ⟨v, vs ++ ys, rfl, h1, h2.append h'⟩
theorem Dats.one {d : D} {v : V} (h : Dat K H d v) : Dats K H [d] [v] := dats_cons.mpr ⟨v, [], rfl, h, dats_nil.mpr rfl⟩
end
inductive MO where
  | lst (ds : List D)
abbrev Mp := Addr → Option MO
def updM (M : Mp) (a : Addr) (o : MO) : Mp := fun b => if b = a then some o else M b
def noM : Mp := fun _ => none
theorem updM_same {M : Mp} {a : Addr} {o : MO} : updM M a o a = some o := by unfold updM; rw [if_pos rfl]
theorem updM_ne {M : Mp} {a b : Addr} {o : MO} (h : b ≠ a) : updM M a o b = M b := by unfold updM; rw [if_neg h]
theorem updM_old {M : Mp} {a b : Addr} {o u : MO} (h : M b = some o) (n : M a = none) : updM M a u b = some o := by
  rw [updM_ne (fun e => by subst e; rw [h] at n; cases n)]; exact h
def Le (M M' : Mp) : Prop := ∀ a o, M a = some o → M' a = some o
theorem Le.refl (M : Mp) : Le M M := fun _ _ h => h
theorem Le.trans {M M1 M2 : Mp} (a : Le M M1) (b : Le M1 M2) : Le M M2 := fun c o h => b c o (a c o h)
theorem Le.no (M : Mp) : Le noM M := fun _ _ h => by cases h
theorem Le.new {M : Mp} {a : Addr} {o : MO} (n : M a = none) : Le M (updM M a o) := fun _ _ h => updM_old h n
def MOk (K : PySem.W.Frag) (H : Hp) (a : Addr) : MO → Prop
  | .lst ds => ∃ xs, H a = some (.lst xs) ∧ Dats K H ds xs
def RepM (K : PySem.W.Frag) (H : Hp) (M : Mp) : Prop := ∀ a o, M a = some o → MOk K H a o
theorem RepM.no {K : PySem.W.Frag} {H : Hp} : RepM K H noM := fun _ _ h => by cases h
theorem RepM.le {K : PySem.W.Frag} {H : Hp} {M M' : Mp} (h : RepM K H M') (l : Le M M') : RepM K H M := fun a o e => h a o (l a o e)
theorem RepM.lst {K : PySem.W.Frag} {H : Hp} {M : Mp} {a : Addr} {ds : List D} (h : RepM K H M) (e : M a = some (.lst ds)) : ∃ xs, H a = some (.lst xs) ∧ Dats K H ds xs := h a _ e
theorem RepM.free {K : PySem.W.Frag} {H : Hp} {M : Mp} {a : Addr} (h : RepM K H M) (e : H a = none) : M a = none := by
  cases q : M a with
  | none => rfl
  | some o =>
    cases o with
    | lst ds =>
      obtain ⟨xs, e', _⟩ := h.lst q
      rw [e] at e'; cases e'
theorem RepM.notLst {K : PySem.W.Frag} {H : Hp} {M : Mp} {a : Addr} {u : HO} (h : RepM K H M) (e : H a = some u) (n : ∀ xs, u ≠ .lst xs) : M a = none := by
  cases q : M a with
  | none => rfl
  | some o =>
    cases o with
    | lst ds =>
      obtain ⟨xs, e', _⟩ := h.lst q
      rw [e] at e'
      exact absurd (Option.some.inj e') (n xs)
def Fr (M : Mp) (H : Hp) (M' : Mp) (H' : Hp) : Prop := ∀ b o, M b = none → H b = some o → H' b = some o ∧ M' b = none
theorem Fr.refl (M : Mp) (H : Hp) : Fr M H M H := fun _ _ n e => ⟨e, n⟩
theorem Fr.trans {M M1 M2 : Mp} {H H1 H2 : Hp} (a : Fr M H M1 H1) (b : Fr M1 H1 M2 H2) : Fr M H M2 H2 := fun c o n e =>
  let ⟨e1, n1⟩ := a c o n e
  b c o n1 e1
theorem Fr.le {M M1 M2 : Mp} {H H1 : Hp} (a : Fr M H M1 H1) (l : Le M2 M1) : Fr M H M2 H1 := fun b o n e => by
  obtain ⟨e1, n1⟩ := a b o n e
  refine ⟨e1, ?_⟩
  cases q : M2 b with
  | none => rfl
  | some u => rw [l b u q] at n1; cases n1
theorem Fr.ext {K : PySem.W.Frag} {M M' : Mp} {H H' : Hp} (f : Fr M H M' H') (r : RepM K H M) : Ext H H' :=
  ⟨fun b xs e => (f b _ (r.notLst e (fun _ z => by cases z)) e).1, fun b o u e => (f b _ (r.notLst e (fun _ z => by cases z)) e).1⟩
theorem Ext.new {H : Hp} {p : Addr} {o : HO} (n : H p = none) : Ext H (upd H p o) :=
  ⟨fun b xs e => by rw [upd_ne (ne_of_none e n)]; exact e, fun b o' u e => by rw [upd_ne (ne_of_none e n)]; exact e⟩
theorem Fr.new {M M' : Mp} {H : Hp} {p : Addr} {o : HO} (n : H p = none) (h : ∀ b, b ≠ p → M' b = M b) : Fr M H M' (upd H p o) := fun b u m e => by
  have hb : b ≠ p := ne_of_none e n
  rw [upd_ne hb, h b hb]
  exact ⟨e, m⟩
theorem Fr.write {K : PySem.W.Frag} {M : Mp} {H : Hp} {p : Addr} {o : HO} {u : MO} {v : MO} (m : M p = some u) : Fr M H (updM M p v) (upd H p o) := fun b w n e => by
  have hb : b ≠ p := fun z => by subst z; rw [m] at n; cases n
  rw [upd_ne hb, updM_ne hb]
  exact ⟨e, n⟩
theorem RepM.new {K : PySem.W.Frag} {M : Mp} {H : Hp} {p : Addr} {o : HO} (r : RepM K H M) (n : H p = none) : RepM K (upd H p o) M := fun a u e => by
  cases u with
  | lst ds =>
    obtain ⟨xs, e1, e2⟩ := r.lst e
    exact ⟨xs, by rw [upd_ne (ne_of_none e1 n)]; exact e1, Dats.mono (Ext.new n) _ _ e2⟩
theorem Ext.writeL {H : Hp} {p : Addr} {xs ys : List V} (h : H p = some (.lst xs)) : Ext H (upd H p (.lst ys)) :=
  ⟨fun b zs e => by rw [upd_ne (ne_of e h (by intro z; cases z))]; exact e, fun b o u e => by rw [upd_ne (ne_of e h (by intro z; cases z))]; exact e⟩
theorem RepM.newL {K : PySem.W.Frag} {M : Mp} {H : Hp} {p : Addr} {xs : List V} {ds : List D} (r : RepM K H M) (n : H p = none) (d : Dats K H ds xs) : RepM K (upd H p (.lst xs)) (updM M p (.lst ds)) := fun a u e => by
  by_cases ha : a = p
  · subst ha
    rw [updM_same] at e; cases e
    exact ⟨xs, upd_same, Dats.mono (Ext.new n) _ _ d⟩
  · rw [updM_ne ha] at e
    exact r.new n a u e
theorem RepM.writeL {K : PySem.W.Frag} {M : Mp} {H : Hp} {p : Addr} {xs ys : List V} {ds : List D} (r : RepM K H M) (h : H p = some (.lst xs)) (d : Dats K H ds ys) : RepM K (upd H p (.lst ys)) (updM M p (.lst ds)) := fun a u e => by
  by_cases ha : a = p
  · subst ha
    rw [updM_same] at e; cases e
    exact ⟨ys, upd_same, Dats.mono (Ext.writeL h) _ _ d⟩
  · rw [updM_ne ha] at e
    cases u with
    | lst es =>
      obtain ⟨zs, e1, e2⟩ := r.lst e
      exact ⟨zs, by rw [upd_ne ha]; exact e1, Dats.mono (Ext.writeL h) _ _ e2⟩
abbrev En := List (Option D)
structure Rep (K : PySem.W.Frag) (H : Hp) (σ : St) (ρ : En) (M : Mp) : Prop where
  env : ∀ (i : Nat) d, ρ[i]? = some (some d) → ∃ v, σ[i]? = some (some v) ∧ Dat K H d v
  len : ρ.length = σ.length
  mem : RepM K H M
theorem Rep.go {K : PySem.W.Frag} {H H' : Hp} {σ : St} {ρ : En} {M M' : Mp} (r : Rep K H σ ρ M) (f : Fr M H M' H') (r' : RepM K H' M') : Rep K H' σ ρ M' :=
  ⟨fun i d e => let ⟨v, e1, e2⟩ := r.env i d e; ⟨v, e1, Dat.mono (f.ext r.mem) _ _ e2⟩, r.len, r'⟩
theorem Rep.set {K : PySem.W.Frag} {H : Hp} {σ : St} {ρ : En} {M : Mp} {i : Nat} {d : D} {v : V} (r : Rep K H σ ρ M) (h : Dat K H d v) : Rep K H (σ.set i (some v)) (ρ.set i (some d)) M := by
  refine ⟨fun j e q => ?_, by simp [r.len], r.mem⟩
  by_cases hj : i = j
  · subst hj
    by_cases hl : i < ρ.length
    · rw [List.getElem?_set_self hl] at q
      cases q
      exact ⟨v, List.getElem?_set_self (by rw [← r.len]; exact hl), h⟩
    · rw [List.getElem?_eq_none (by simp; omega)] at q; cases q
  · rw [List.getElem?_set_ne hj] at q ⊢
    exact r.env j e q
abbrev DK := D → Mp → Prop
abbrev TE3 := En → Mp → DK → Prop
abbrev TT3 := En → Mp → (Bool → Mp → Prop) → Prop
abbrev TA3 := En → Mp → (List D → Mp → Prop) → Prop
def Post (K : PySem.W.Frag) (M : Mp) (H : Hp) (Q : DK) : VK := fun v H' => ∃ d M', Fr M H M' H' ∧ Dat K H' d v ∧ RepM K H' M' ∧ Q d M'
def PostB (K : PySem.W.Frag) (M : Mp) (H : Hp) (Q : Bool → Mp → Prop) : Bool → Hp → Prop := fun b H' => ∃ M', Fr M H M' H' ∧ RepM K H' M' ∧ Q b M'
def PostA (K : PySem.W.Frag) (M : Mp) (H : Hp) (Q : List D → Mp → Prop) : List V → Hp → Prop := fun vs H' => ∃ ds M', Fr M H M' H' ∧ Dats K H' ds vs ∧ RepM K H' M' ∧ Q ds M'
structure PE3 (X : Cx) (e : Expr) (t : TE3) : Prop where
  run : ∀ (pins : List (Addr × Obj)) (s : Shared) (σ : St) (H : Hp) (ρ : En) (M : Mp) (Q : DK), Inv X pins σ H s → Rep X.K H σ ρ M → t ρ M Q → wpAny (model X.prog X.w) X.A (eval e X.env) (EP X pins σ (Post X.K M H Q)) X.xe s
structure PT3 (X : Cx) (e : Expr) (t : TT3) : Prop where
  run : ∀ (pins : List (Addr × Obj)) (s : Shared) (σ : St) (H : Hp) (ρ : En) (M : Mp) (Q : Bool → Mp → Prop), Inv X pins σ H s → Rep X.K H σ ρ M → t ρ M Q → wpAny (model X.prog X.w) X.A (isTrue e X.env (eval e X.env)) (TP X pins σ (PostB X.K M H Q)) X.xe s
structure PW3 (X : Cx) (e : Expr) (t : TT3) : Prop where
  run : ∀ (whole : Sem Value) (pins : List (Addr × Obj)) (s : Shared) (σ : St) (H : Hp) (ρ : En) (M : Mp) (Q : Bool → Mp → Prop), Inv X pins σ H s → Rep X.K H σ ρ M → t ρ M Q → wpAny (model X.prog X.w) X.A (isTrue e X.env whole) (TP X pins σ (PostB X.K M H Q)) X.xe s
theorem PW3.pt {X : Cx} {e : Expr} {t : TT3} (h : PW3 X e t) : PT3 X e t := ⟨h.run _⟩
structure PA3 (X : Cx) (es : List Expr) (t : TA3) : Prop where
  run : ∀ (pos : Pos) (pins : List (Addr × Obj)) (s : Shared) (σ : St) (H : Hp) (ρ : En) (M : Mp) (Q : List D → Mp → Prop), Inv X pins σ H s → Rep X.K H σ ρ M → t ρ M Q → wpAny (model X.prog X.w) X.A (spliced (backTo pos (starEach es X.env))) (AP X pins σ (PostA X.K M H Q)) X.xe s
structure En3 where
  nx : En → Mp → Prop
  rt : DK
  bk : En → Mp → Prop := fun _ _ => False
  ct : En → Mp → Prop := fun _ _ => False
abbrev TS3 := En3 → En → Mp → Prop
def PostN (K : PySem.W.Frag) (M : Mp) (H : Hp) (Q : En → Mp → Prop) : St → Hp → Prop := fun σ' H' => ∃ ρ' M', Fr M H M' H' ∧ Rep K H' σ' ρ' M' ∧ Q ρ' M'
def ends (K : PySem.W.Frag) (M : Mp) (H : Hp) (D : En3) : Ends := { nx := PostN K M H D.nx, rt := Post K M H D.rt, bk := PostN K M H D.bk, ct := PostN K M H D.ct }
structure PS3 (X : Cx) (st : Stmt) (t : TS3) : Prop where
  run : ∀ (pins : List (Addr × Obj)) (s : Shared) (σ : St) (H : Hp) (ρ : En) (M : Mp) (D : En3), Inv X pins σ H s → Rep X.K H σ ρ M → t D ρ M → wpAny (model X.prog X.w) X.A (exec st X.env) (SP X pins (ends X.K M H D)) X.xe s
structure PSs3 (X : Cx) (st : List Stmt) (t : TS3) : Prop where
  run : ∀ (pins : List (Addr × Obj)) (s : Shared) (σ : St) (H : Hp) (ρ : En) (M : Mp) (D : En3), Inv X pins σ H s → Rep X.K H σ ρ M → t D ρ M → wpAny (model X.prog X.w) X.A (execs st X.env) (SP X pins (ends X.K M H D)) X.xe s
section
variable {X : Cx}
theorem up {e : Expr} {te : TE} {t : TE3} (h : PE X e te) (g : ∀ σ H ρ M Q, Rep X.K H σ ρ M → t ρ M Q → te σ H (Post X.K M H Q)) : PE3 X e t :=
  ⟨fun pins s σ H ρ M Q I r q => h pins s σ H _ I (g σ H ρ M Q r q)⟩
theorem upT {e : Expr} {te : TT} {t : TT3} (h : PT X e te) (g : ∀ σ H ρ M Q, Rep X.K H σ ρ M → t ρ M Q → te σ H (PostB X.K M H Q)) : PT3 X e t :=
  ⟨fun pins s σ H ρ M Q I r q => h pins s σ H _ I (g σ H ρ M Q r q)⟩
theorem upS {st : Stmt} {te : TS} {t : TS3} (h : PS X st te) (g : ∀ σ H ρ M D, Rep X.K H σ ρ M → t D ρ M → te (ends X.K M H D) σ H) : PS3 X st t :=
  ⟨fun pins s σ H ρ M D I r q => h pins s σ H _ I (g σ H ρ M D r q)⟩
def dn (K : PySem.W.Frag) (t : TE3) : TE := fun σ H Q' => ∃ ρ M Q, Rep K H σ ρ M ∧ t ρ M Q ∧ ∀ v H', Post K M H Q v H' → Q' v H'
def dnT (K : PySem.W.Frag) (t : TT3) : TT := fun σ H Q' => ∃ ρ M Q, Rep K H σ ρ M ∧ t ρ M Q ∧ ∀ v H', PostB K M H Q v H' → Q' v H'
def dnA (K : PySem.W.Frag) (t : TA3) : TA := fun σ H Q' => ∃ ρ M Q, Rep K H σ ρ M ∧ t ρ M Q ∧ ∀ v H', PostA K M H Q v H' → Q' v H'
def dnS (K : PySem.W.Frag) (t : TS3) : TS := fun D' σ H => ∃ ρ M D, Rep K H σ ρ M ∧ t D ρ M ∧ (∀ σ' H', PostN K M H D.nx σ' H' → D'.nx σ' H') ∧ (∀ v H', Post K M H D.rt v H' → D'.rt v H') ∧ (∀ σ' H', PostN K M H D.bk σ' H' → D'.bk σ' H') ∧ (∀ σ' H', PostN K M H D.ct σ' H' → D'.ct σ' H')
theorem PE3.dn {e : Expr} {t : TE3} (h : PE3 X e t) : PE X e (dn X.K t) := fun pins s σ H Q' I ⟨ρ, M, Q, r, q, k⟩ =>
  thn (h.run pins s σ H ρ M Q I r q) fun _ _ ⟨v, H', I', rv, p⟩ => ⟨v, H', I', rv, k v H' p⟩
theorem PT3.dn {e : Expr} {t : TT3} (h : PT3 X e t) : PT X e (dnT X.K t) := fun pins s σ H Q' I ⟨ρ, M, Q, r, q, k⟩ =>
  thn (h.run pins s σ H ρ M Q I r q) fun _ _ ⟨H', I', p⟩ => ⟨H', I', k _ H' p⟩
theorem PW3.dn {e : Expr} {t : TT3} (h : PW3 X e t) : PW X e (dnT X.K t) := fun wh pins s σ H Q' I ⟨ρ, M, Q, r, q, k⟩ =>
  thn (h.run wh pins s σ H ρ M Q I r q) fun _ _ ⟨H', I', p⟩ => ⟨H', I', k _ H' p⟩
theorem PA3.dn {es : List Expr} {t : TA3} (h : PA3 X es t) : PA X es (dnA X.K t) := fun pos pins s σ H Q' I ⟨ρ, M, Q, r, q, k⟩ =>
  thn (h.run pos pins s σ H ρ M Q I r q) fun _ _ ⟨vs, H', I', rv, p⟩ => ⟨vs, H', I', rv, k vs H' p⟩
theorem PSs3.dn {sts : List Stmt} {t : TS3} (h : PSs3 X sts t) : PSs X sts (dnS X.K t) := fun pins s σ H D' I ⟨ρ, M, D, r, q, k1, k2, k3, k4⟩ =>
  thn (h.run pins s σ H ρ M D I r q) fun f s' z => by
    cases f with
    | next => obtain ⟨σ', H', I', p⟩ := z; exact ⟨σ', H', I', k1 _ _ p⟩
    | brk => obtain ⟨σ', H', I', p⟩ := z; exact ⟨σ', H', I', k3 _ _ p⟩
    | cont => obtain ⟨σ', H', I', p⟩ := z; exact ⟨σ', H', I', k4 _ _ p⟩
    | ret u => obtain ⟨v, σ', H', I', rv, p⟩ := z; exact ⟨v, σ', H', I', rv, k2 _ _ p⟩
theorem dn_of {K : PySem.W.Frag} {t : TE3} {σ : St} {H : Hp} {ρ : En} {M : Mp} {Q : DK} {Q' : VK} (r : Rep K H σ ρ M) (q : t ρ M Q) (k : ∀ v H' d M', Fr M H M' H' → Dat K H' d v → Rep K H' σ ρ M' → Q d M' → Q' v H') : dn K t σ H Q' :=
  ⟨ρ, M, Q, r, q, fun v H' ⟨d, M', f, dv, rm, p⟩ => k v H' d M' f dv (r.go f rm) p⟩
theorem dnT_of {K : PySem.W.Frag} {t : TT3} {σ : St} {H : Hp} {ρ : En} {M : Mp} {Q : Bool → Mp → Prop} {Q' : Bool → Hp → Prop} (r : Rep K H σ ρ M) (q : t ρ M Q) (k : ∀ b H' M', Fr M H M' H' → Rep K H' σ ρ M' → Q b M' → Q' b H') : dnT K t σ H Q' :=
  ⟨ρ, M, Q, r, q, fun b H' ⟨M', f, rm, p⟩ => k b H' M' f (r.go f rm) p⟩
theorem dnA_of {K : PySem.W.Frag} {t : TA3} {σ : St} {H : Hp} {ρ : En} {M : Mp} {Q : List D → Mp → Prop} {Q' : List V → Hp → Prop} (r : Rep K H σ ρ M) (q : t ρ M Q) (k : ∀ vs H' ds M', Fr M H M' H' → Dats K H' ds vs → Rep K H' σ ρ M' → Q ds M' → Q' vs H') : dnA K t σ H Q' :=
  ⟨ρ, M, Q, r, q, fun v H' ⟨d, M', f, dv, rm, p⟩ => k v H' d M' f dv (r.go f rm) p⟩
theorem post_self {K : PySem.W.Frag} {M : Mp} {H : Hp} {Q : DK} {d : D} {v : V} (rm : RepM K H M) (h : Dat K H d v) (q : Q d M) : Post K M H Q v H := ⟨d, M, .refl _ _, h, rm, q⟩
theorem Post.back {K : PySem.W.Frag} {M M1 : Mp} {H H1 : Hp} {Q : DK} {v : V} {H' : Hp} (f : Fr M H M1 H1) (p : Post K M1 H1 Q v H') : Post K M H Q v H' := by
  obtain ⟨d, M', f', dv, rm, q⟩ := p
  exact ⟨d, M', f.trans f', dv, rm, q⟩
theorem PostB.back {K : PySem.W.Frag} {M M1 : Mp} {H H1 : Hp} {Q : Bool → Mp → Prop} {b : Bool} {H' : Hp} (f : Fr M H M1 H1) (p : PostB K M1 H1 Q b H') : PostB K M H Q b H' := by
  obtain ⟨M', f', rm, q⟩ := p
  exact ⟨M', f.trans f', rm, q⟩
theorem PostN.back {K : PySem.W.Frag} {M M1 : Mp} {H H1 : Hp} {Q : En → Mp → Prop} {σ : St} {H' : Hp} (f : Fr M H M1 H1) (p : PostN K M1 H1 Q σ H') : PostN K M H Q σ H' := by
  obtain ⟨ρ', M', f', r, q⟩ := p
  exact ⟨ρ', M', f.trans f', r, q⟩
end
end L3
namespace L3
open PySem PySem.Spec PyProof.Rows L2
section
variable {X : Cx} {a b c : Expr} {ta tb tc : TE3} {pos : Pos}
def tVar3 (i : Nat) : TE3 := fun ρ M Q => ∃ d, ρ[i]? = some (some d) ∧ Q d M
def tC3 (d : D) : TE3 := fun _ M Q => Q d M
theorem q_var (i : Nat) {x : Str} {pos : Pos} (hN : X.N[i]? = some x := by rfl) (hv : Vis X.env.scope x := by first | exact Or.inl rfl | exact Or.inr (Or.inl rfl) | exact Or.inr (Or.inr rfl)) (hd : (x == ("__debug__" : Str)) = false := by decide)
    (hcd : (x == ("__classdict__" : Str)) = false := by decide) : PE3 X (.Name x pos) (tVar3 i) :=
  up (pe_var hN hv hd hcd) fun σ H ρ M Q r ⟨d, e, q⟩ => by
    obtain ⟨v, e1, e2⟩ := r.env i d e
    exact ⟨v, e1, post_self r.mem e2 q⟩
theorem q_int {i j pos} : PE3 X (.Constant (.int i) j pos) (tC3 (.int i)) := up pe_int fun _ _ _ _ _ r q => post_self r.mem (dat_int.mpr rfl) q
theorem q_bl {b j pos} : PE3 X (.Constant (.bool b) j pos) (tC3 (.bl b)) := up pe_bl fun _ _ _ _ _ r q => post_self r.mem (dat_bl.mpr rfl) q
theorem q_str {x j pos} : PE3 X (.Constant (.str x) j pos) (tC3 (.str x)) := up pe_str fun _ _ _ _ _ r q => post_self r.mem (dat_str.mpr rfl) q
theorem q_cls {x : Str} {C : Addr} {pos : Pos} (hg : Gl X x) (hm : X.mg x = some (.ref C)) (hd : (x == ("__debug__" : Str)) = false := by decide) : PE3 X (.Name x pos) (tC3 (.ref C)) :=
  up (pe_glob (v := .ref C) hg hm rfl hd) fun _ _ _ _ _ r q => post_self r.mem (dat_ref.mpr rfl) q
theorem q_type {x : Str} {n : String} {pos : Pos} (hg : Gl X x) (hm : X.mg x = none) (hv : bootBuiltins x = some (.type n)) (hn : x ≠ "__name__" := by decide) (hd : (x == ("__debug__" : Str)) = false := by decide) : PE3 X (.Name x pos) (tC3 (.ty n)) :=
  up (pe_bltn (v := .ty n) hg hm hv rfl hn hd) fun _ _ _ _ _ r q => post_self r.mem (dat_ty.mpr rfl) q
abbrev R3 := D → D → Mp → DK → Prop
structure Op3 (X : Cx) (f : Value → Value → Sem Value) (t : R3) : Prop where
  run : ∀ (pins : List (Addr × Obj)) (s : Shared) (σ : St) (H : Hp) (M : Mp) (x y : V) (d e : D) (v u : Value) (Q : DK), Inv X pins σ H s → RepM X.K H M → RelV x v → RelV y u → Dat X.K H d x → Dat X.K H e y → t d e M Q →
    wpAny (model X.prog X.w) X.A (f v u) (EP X pins σ (Post X.K M H Q)) X.xe s
theorem op3 {f : Value → Value → Sem Value} {r : R2} {t : R3} (h : OpR X f r) (g : ∀ H M x y d e Q, RepM X.K H M → Dat X.K H d x → Dat X.K H e y → t d e M Q → r x y H (Post X.K M H Q)) : Op3 X f t :=
  ⟨fun pins s σ H M x y d e v u Q I rm rx ry dx dy q => h pins s σ H x y v u _ I rx ry (g H M x y d e Q rm dx dy q)⟩
def tBin (t : R3) (ta tb : TE3) : TE3 := fun ρ M Q => ta ρ M fun x M1 => tb ρ M1 fun y M2 => t x y M2 Q
theorem two3 (ha : PE3 X a ta) (hb : PE3 X b tb) {pins : List (Addr × Obj)} {s : Shared} {σ : St} {H : Hp} {ρ : En} {M : Mp} {R : D → D → Mp → Prop} (I : Inv X pins σ H s) (r : Rep X.K H σ ρ M)
    (h : ta ρ M fun x M1 => tb ρ M1 fun y M2 => R x y M2) {Q : Value → Shared → Prop} {f : Value → Value → Sem Value}
    (hf : ∀ v u s2 x y d e H2 M2, Inv X pins σ H2 s2 → Rep X.K H2 σ ρ M2 → Fr M H M2 H2 → RelV x v → RelV y u → Dat X.K H2 d x → Dat X.K H2 e y → R d e M2 → wpAny (model X.prog X.w) X.A (f v u) Q X.xe s2) :
    wpAny (model X.prog X.w) X.A (eval a X.env) (fun v s₁ => wpAny (model X.prog X.w) X.A (eval b X.env) (fun u s₂ => wpAny (model X.prog X.w) X.A (f v u) Q X.xe s₂) X.xe s₁) X.xe s := by
  refine thn (ha.run pins s σ H ρ M _ I r h) fun v s1 ⟨x, H1, I1, r1, d, M1, f1, d1, rm1, q1⟩ => ?_
  have R1 := r.go f1 rm1
  refine thn (hb.run pins s1 σ H1 ρ M1 _ I1 R1 q1) fun u s2 ⟨y, H2, I2, r2, e, M2, f2, d2, rm2, q2⟩ => ?_
  exact hf v u s2 x y d e H2 M2 I2 (R1.go f2 rm2) (f1.trans f2) r1 r2 (Dat.mono (f2.ext rm1) _ _ d1) d2 q2
theorem q_bin {op : Operator} {t : R3} (ho : Op3 X (binaryOp op) t) (ha : PE3 X a ta) (hb : PE3 X b tb) : PE3 X (.BinOp a op b pos) (tBin t ta tb) := by
  constructor
  intro pins s σ H ρ M Q I r h
  refine wpAny_BinOp (two3 ha hb I r h fun v u s2 x y d e H2 M2 I2 R2 f rx ry dx dy q => ?_)
  exact thn (ho.run pins s2 σ H2 M2 x y d e v u Q I2 R2.mem rx ry dx dy q) fun _ _ ⟨z, H3, I3, r3, p⟩ => ⟨z, H3, I3, r3, p.back f⟩
theorem q_cmp {op : CmpOp} {t : R3} (ho : Op3 X (compareOp op) t) (ha : PE3 X a ta) (hb : PE3 X b tb) (hm : behindInMarks op b = false) : PE3 X (.Compare a [op] [b] pos) (tBin t ta tb) := by
  constructor
  intro pins s σ H ρ M Q I r h
  refine wpAny_Compare1 (two3 ha hb I r h fun v u s2 x y d e H2 M2 I2 R2 f rx ry dx dy q => ?_) hm
  exact thn (ho.run pins s2 σ H2 M2 x y d e v u Q I2 R2.mem rx ry dx dy q) fun _ _ ⟨z, H3, I3, r3, p⟩ => ⟨z, H3, I3, r3, p.back f⟩
def tTest3 (t : TE3) : TT3 := fun ρ M Q => t ρ M fun x M' => ∃ k, x = .bl k ∧ Q k M'
theorem k_cmp {op : CmpOp} {t : R3} (ho : Op3 X (compareOp op) t) (ha : PE3 X a ta) (hb : PE3 X b tb) (hm : behindInMarks op b = false) : PT3 X (.Compare a [op] [b] pos) (tTest3 (tBin t ta tb)) := by
  constructor
  intro pins s σ H ρ M Q I r h
  refine wpAny_isTrue_Compare1 (thn (ha.run pins s σ H ρ M _ I r h) fun v s1 ⟨x, H1, I1, r1, d, M1, f1, d1, rm1, q1⟩ => thn (hb.run pins s1 σ H1 ρ M1 _ I1 (r.go f1 rm1) q1) fun u s2 ⟨y, H2, I2, r2, e, M2, f2, d2, rm2, q2⟩ =>
    thn (ho.run pins s2 σ H2 M2 x y d e v u _ I2 rm2 r1 r2 (Dat.mono (f2.ext rm1) _ _ d1) d2 q2) fun w s3 ⟨z, H3, I3, r3, dz, M3, f3, d3, rm3, k, ek, q3⟩ => ?_) hm
  subst ek
  obtain rfl := dat_bl.mp d3
  cases r3
  exact wpAny_truthy_bool ⟨H3, I3, M3, (f1.trans f2).trans f3, rm3, q3⟩
theorem k_val {e : Expr} {t : TE3} (h : PE3 X e t) (he : ∀ whole, isTrue e X.env whole = (do let v ← whole; standAt e.pos; holding [v] (truthy v)) := by intro _; rfl) : PT3 X e (tTest3 t) := by
  constructor
  intro pins s σ H ρ M Q I r hw
  refine isTrue_plain (thn (h.run pins s σ H ρ M _ I r hw) fun v s1 ⟨x, H1, I1, r1, d, M1, f1, d1, rm1, k, ek, q1⟩ => ?_) (he _)
  subst ek
  obtain rfl := dat_bl.mp d1
  cases r1
  exact wpAny_truthy_bool ⟨H1, I1, M1, f1, rm1, q1⟩
variable {tA tB : TT3} {rest : List Expr}
def tOr3 (t u : TT3) : TT3 := fun ρ M Q => t ρ M fun c M1 => if c = true then Q true M1 else u ρ M1 Q
def tNot3 (t : TT3) : TT3 := fun ρ M Q => t ρ M fun c M1 => Q (!c) M1
theorem k_or1 (ha : PT3 X a tA) : PW3 X (.BoolOp .Or [a] pos) tA := ⟨fun wh pins s σ H ρ M Q I r h => thn (pw_or1 ha.dn wh pins s σ H _ I ⟨ρ, M, Q, r, h, fun _ _ z => z⟩) fun _ _ z => z⟩
theorem k_or (ha : PT3 X a tA) (hb : PW3 X (.BoolOp .Or (b :: rest) pos) tB) : PW3 X (.BoolOp .Or (a :: b :: rest) pos) (tOr3 tA tB) := ⟨fun wh pins s σ H ρ M Q I r h =>
  pw_or ha.dn hb.dn wh pins s σ H _ I (dnT_of r h fun c H' M' f r' q => by
    cases c with
    | true => exact ⟨M', f, r'.mem, q⟩
    | false => exact ⟨ρ, M', Q, r', q, fun _ _ p => p.back f⟩)⟩
theorem k_not (ha : PT3 X a tA) : PT3 X (.UnaryOp .Not a pos) (tNot3 tA) := upT (pt_not ha.dn) fun σ H ρ M Q r h => dnT_of r h fun _ _ M' f r' q => ⟨M', f, r'.mem, q⟩
def tAndV3 (ta tb : TE3) : TE3 := fun ρ M Q => ta ρ M fun x M1 => ∃ c, x = .bl c ∧ if c = true then tb ρ M1 Q else Q (.bl false) M1
theorem q_one {op} {t : TE3} (h : PE3 X a t) : PE3 X (.BoolOp op [a] pos) t := ⟨fun pins s σ H ρ M Q I r hw => BoolOp_one (h.run pins s σ H ρ M Q I r hw)⟩
theorem q_and (ha : PE3 X a ta) (hb : PE3 X (.BoolOp .And (b :: rest) pos) tb) : PE3 X (.BoolOp .And (a :: b :: rest) pos) (tAndV3 ta tb) := up (pe_and ha.dn hb.dn) fun σ H ρ M Q r h => dn_of r h fun v H' d M' f dv r' ⟨k, ek, q⟩ => by
  subst ek
  obtain rfl := dat_bl.mp dv
  refine ⟨k, rfl, ?_⟩
  cases k with
  | true => exact ⟨ρ, M', Q, r', q, fun _ _ p => p.back f⟩
  | false => exact ⟨.bl false, M', f, dat_bl.mpr rfl, r'.mem, q⟩
def tIf3 (t : TT3) (ta tb : TE3) : TE3 := fun ρ M Q => t ρ M fun c M1 => if c = true then ta ρ M1 Q else tb ρ M1 Q
theorem q_if {c : Expr} (hc : PT3 X c tA) (ha : PE3 X a ta) (hb : PE3 X b tb) : PE3 X (.IfExp c a b pos) (tIf3 tA ta tb) := up (pe_ifExp hc.dn ha.dn hb.dn) fun σ H ρ M Q r h => dnT_of r h fun k H' M' f r' q => by
  cases k with
  | true => exact ⟨ρ, M', Q, r', q, fun _ _ p => p.back f⟩
  | false => exact ⟨ρ, M', Q, r', q, fun _ _ p => p.back f⟩
def Sm (n : Nat) (i : Int) : Prop := i.natAbs < 2 ^ n
def MulOk (i j : Int) : Prop := ∃ m n, Sm m i ∧ Sm n j ∧ m + n ≤ 100000
theorem log2_of_lt {k n : Nat} (h : k < 2 ^ n) : k.log2 ≤ n := by
  rcases Nat.eq_zero_or_pos k with z | z
  · subst z; simp
  · exact Nat.le_of_lt (by rw [Nat.log2_lt (by omega)]; exact h)
theorem bits_of {n : Nat} {i : Int} (h : Sm n i) : Builtin.Int.intBits i ≤ n + 1 := by
  unfold Builtin.Int.intBits
  have := log2_of_lt h
  first
    | (split <;> omega)
    | omega
theorem MulOk.ok {i j : Int} (h : MulOk i j) : IntMulOk i j := by
  obtain ⟨m, n, h1, h2, h3⟩ := h
  have b1 := bits_of h1
  have b2 := bits_of h2
  exact IntMulOk.of_bits (by omega) (by omega)
def rInt (g : Int → Int → Int) : R3 := fun d e M Q => ∃ i j, d = .int i ∧ e = .int j ∧ Q (.int (g i j)) M
def rIntC (C : Int → Int → Prop) (g : Int → Int → Int) : R3 := fun d e M Q => ∃ i j, d = .int i ∧ e = .int j ∧ C i j ∧ Q (.int (g i j)) M
def rIntB (g : Int → Int → Bool) : R3 := fun d e M Q => ∃ i j, d = .int i ∧ e = .int j ∧ Q (.bl (g i j)) M
theorem int3 {f : Value → Value → Sem Value} {g : Int → Int → Int} (h : OpR X f (rI0 fun i j => .int (g i j))) : Op3 X f (rInt g) := op3 h fun H M x y d e Q rm dx dy ⟨i, j, e1, e2, q⟩ => by
  subst e1; subst e2
  exact ⟨i, j, dat_int.mp dx, dat_int.mp dy, post_self rm (dat_int.mpr rfl) q⟩
theorem int3C {f : Value → Value → Sem Value} {C : Int → Int → Prop} {g : Int → Int → Int} (h : OpR X f (rI C fun i j => .int (g i j))) : Op3 X f (rIntC C g) := op3 h fun H M x y d e Q rm dx dy ⟨i, j, e1, e2, hc, q⟩ => by
  subst e1; subst e2
  exact ⟨i, j, dat_int.mp dx, dat_int.mp dy, hc, post_self rm (dat_int.mpr rfl) q⟩
theorem int3B {f : Value → Value → Sem Value} {g : Int → Int → Bool} (h : OpR X f (rI0 fun i j => .bl (g i j))) : Op3 X f (rIntB g) := op3 h fun H M x y d e Q rm dx dy ⟨i, j, e1, e2, q⟩ => by
  subst e1; subst e2
  exact ⟨i, j, dat_int.mp dx, dat_int.mp dy, post_self rm (dat_bl.mpr rfl) q⟩
theorem o_add : Op3 X (binaryOp .Add) (rInt fun i j => i + j) := int3 op_add
theorem o_sub : Op3 X (binaryOp .Sub) (rInt fun i j => i - j) := int3 op_sub
theorem o_mul : Op3 X (binaryOp .Mult) (rIntC MulOk fun i j => i * j) := int3C (opI fun _ _ _ _ _ _ _ hc q => mul_int q hc.ok)
theorem o_mod : Op3 X (binaryOp .Mod) (rIntC (fun _ j => 0 < j) fun i j => i % j) := int3C op_mod
def PowOk (i j : Int) : Prop := 0 ≤ j ∧ j ≤ 1000 ∧ i.natAbs < 2 ^ 400
theorem PowOk.bits {i j : Int} (h : PowOk i j) : (Builtin.Int.intBits i : Int) * j ≤ 2 ^ 27 := by
  have hb : Builtin.Int.intBits i ≤ 401 := bits_of (n := 400) h.2.2
  have h1 : (Builtin.Int.intBits i : Int) * j ≤ 401 * j := Int.mul_le_mul_of_nonneg_right (by omega) h.1
  have := h.2.1
  omega
theorem o_pow : Op3 X (binaryOp .Pow) (rIntC PowOk fun i j => i ^ j.toNat) := int3C (opI fun _ _ _ _ _ _ _ hc q => pow_int hc.1 hc.bits q)
theorem o_lt : Op3 X (compareOp .Lt) (rIntB fun i j => decide (i < j)) := int3B op_lt
inductive Sca where
  | non | bl (b : Bool) | int (i : Int) | str (x : Str)
  deriving DecidableEq
def Sca.d : Sca → D | .non => .non | .bl b => .bl b | .int i => .int i | .str x => .str x
def Sca.v : Sca → V | .non => .non | .bl b => .bl b | .int i => .int i | .str x => .str x
end
end L3
namespace L3
open PySem PySem.Spec PyProof.Rows L2
mutual
def eqD : D → D → Bool
  | .non, e => match e with | .non => true | _ => false
  | .bl a, e => match e with | .bl b => a == b | .int b => (if a then 1 else 0) == b | _ => false
  | .int a, e => match e with | .bl b => a == (if b then 1 else 0) | .int b => a == b | _ => false
  | .str a, e => match e with | .str b => a == b | _ => false
  | .tup as, e => match e with | .tup bs => eqDs as bs | _ => false
  | .ty _, _ => false
  | .ref _, _ => false
  | .frl _, _ => false
  | .thg _, _ => false
  | .exc _ _ _, _ => false
def eqDs : List D → List D → Bool
  | [], e => match e with | [] => true | _ => false
  | a :: as, e => match e with | [] => false | b :: bs => eqD a b && eqDs as bs
end
def plain : Nat → D → Bool
  | _, .non => true
  | _, .bl _ => true
  | _, .int _ => true
  | _, .str _ => true
  | n + 1, .tup ds => ds.all (plain n)
  | _, _ => false
theorem eqDs_nil : eqDs [] [] = true := by simp [eqDs]
theorem eqDs_cons (a b : D) (as bs : List D) : eqDs (a :: as) (b :: bs) = (eqD a b && eqDs as bs) := by simp [eqDs]
theorem eqD_tup (as bs : List D) : eqD (.tup as) (.tup bs) = eqDs as bs := by simp [eqD]
theorem eqD_int (a b : Int) : eqD (.int a) (.int b) = (a == b) := by simp [eqD]
theorem eqDs_all : ∀ (ds es : List D), eqDs ds es = ((List.range (min ds.length es.length)).all (fun j => eqD (ds.getD j .non) (es.getD j .non)) && (ds.length == es.length))
  | [], [] => by simp [eqDs]
  | [], e :: es => by simp [eqDs]
  | d :: ds, [] => by simp [eqDs]
  | d :: ds, e :: es => by
    rw [eqDs_cons, eqDs_all ds es]
    have h : min (d :: ds).length (e :: es).length = min ds.length es.length + 1 := by simp only [List.length_cons]; omega
    rw [h, List.range_succ_eq_map, List.all_cons, List.all_map]
    simp only [List.getD_cons_zero, List.length_cons]
    have h2 : ((fun j => eqD ((d :: ds).getD j D.non) ((e :: es).getD j D.non)) ∘ Nat.succ) = fun j => eqD (ds.getD j D.non) (es.getD j D.non) := by
      funext j; simp
    rw [h2]
    have h3 : (ds.length + 1 == es.length + 1) = (ds.length == es.length) := by
      rw [Bool.eq_iff_iff]; simp
    rw [h3, Bool.and_assoc]
theorem eqD_refl : ∀ (n : Nat) (d : D), plain n d = true → eqD d d = true := by
  intro n
  induction n with
  | zero => intro d h; cases d <;> simp [plain] at h <;> simp [eqD]
  | succ n ih =>
    intro d h
    cases d with
    | tup ds =>
      have h : ds.all (plain n) = true := by simpa [plain] using h
      rw [eqD_tup]
      have : ∀ (es : List D), es.all (plain n) = true → eqDs es es = true := by
        intro es
        induction es with
        | nil => intro _; exact eqDs_nil
        | cons e es ihe =>
          intro h
          rw [List.all_cons, Bool.and_eq_true] at h
          rw [eqDs_cons, ih e h.1, ihe h.2]; rfl
      exact this ds h
    | _ => first | (simp [plain] at h; done) | (simp [eqD]; done)
section
variable {K : PySem.W.Frag} {H : Hp}
theorem Dat.inj : ∀ (n : Nat) (d e : D) (v : V), plain n d = true → plain n e = true → Dat K H d v → Dat K H e v → d = e := by
  intro n
  induction n with
  | zero =>
    intro d e v pd pe hd he
    cases d <;> simp [plain] at pd <;> cases e <;> simp [plain] at pe <;> simp only [Dat] at hd he <;> subst hd <;> first | rfl | (injection he with z; rw [z]) | cases he
  | succ n ih =>
    intro d e v pd pe hd he
    have lists : ∀ (ds es : List D) (xs : List V), ds.all (plain n) = true → es.all (plain n) = true → Dats K H ds xs → Dats K H es xs → ds = es := by
      intro ds
      induction ds with
      | nil =>
        intro es xs _ _ h1 h2
        rw [dats_nil.mp h1] at h2
        cases es with
        | nil => rfl
        | cons e es => obtain ⟨_, _, z, _⟩ := dats_cons.mp h2; cases z
      | cons d ds ihd =>
        intro es xs p1 p2 h1 h2
        obtain ⟨v, vs, rfl, g1, g2⟩ := dats_cons.mp h1
        cases es with
        | nil => cases dats_nil.mp h2
        | cons e es =>
          obtain ⟨v', vs', z, g3, g4⟩ := dats_cons.mp h2
          injection z with z1 z2
          subst z1; subst z2
          rw [List.all_cons, Bool.and_eq_true] at p1 p2
          rw [ih d e v p1.1 p2.1 g1 g3, ihd es vs p1.2 p2.2 g2 g4]
    cases d with
    | tup ds =>
      obtain ⟨a, xs, rfl, ha, hx⟩ := dat_tup.mp hd
      cases e with
      | tup es =>
        obtain ⟨b, ys, z, hb, hy⟩ := dat_tup.mp he
        injection z with z
        subst z
        rw [ha] at hb
        injection hb with hb
        injection hb with hb
        subst hb
        rw [lists ds es xs (by simpa [plain] using pd) (by simpa [plain] using pe) hx hy]
      | _ => first | (simp [plain] at pe; done) | (simp only [Dat] at he; cases he)
    | _ => first
      | (simp [plain] at pd; done)
      | (cases e <;> first
          | (simp [plain] at pe; done)
          | (obtain ⟨b, ys, z, hb, hy⟩ := dat_tup.mp he; simp only [Dat] at hd; subst hd; cases z; done)
          | (simp only [Dat] at hd he; subst hd; first | rfl | (injection he with z; rw [z]) | cases he))
end
theorem all_get {α : Type} {p : α → Bool} {xs : List α} (h : xs.all p = true) {i : Nat} {x : α} (e : xs[i]? = some x) : p x = true := (List.all_eq_true.mp h) x (List.mem_of_getElem? e)
section
variable {X : Cx} {pins : List (Addr × Obj)} {σ : St} {H : Hp} {s : Shared}
theorem tup_at {P : Program} {w : World} {h : Heap} {a : Addr} {xs : List V} (ok : HOk P w H h) (e : H a = some (.tup xs)) : ∃ its : List Value, Vals xs its ∧ IsTup h a its.toArray ∧ xs.length ≤ sizeLine := by
  obtain ⟨z, its, r, p⟩ := (show ObjOk P w H h a (.tup xs) from ok a _ e)
  exact ⟨its, r, p, z⟩
theorem eqAt_D {P : Program} {w : World} (ok : HOk P w H s.heap) {K : PySem.W.Frag} : ∀ (n : Nat) (A : Around) (d e : D) (x y : V) (u v : Value), A.units + n < cLine → plain n d = true → plain n e = true → Dat K H d x → Dat K H e y → RelV x u → RelV y v → SeqAt.EqAt A s u v (eqD d e) := by
  intro n
  induction n with
  | zero =>
    intro A d e x y u v hu pd pe dx dy rx ry
    cases d with
    | tup ds => simp [plain] at pd
    | ty _ => simp [plain] at pd
    | ref _ => simp [plain] at pd
    | frl _ => simp [plain] at pd
    | thg _ => simp [plain] at pd
    | exc _ _ _ => simp [plain] at pd
    | non =>
      obtain rfl := dat_non.mp dx
      cases rx
      cases e with
      | non => obtain rfl := dat_non.mp dy; cases ry; simpa [eqD] using SeqAt.EqAt.same (A := A) (s := s) Value.none
      | bl b => obtain rfl := dat_bl.mp dy; cases ry; simpa [eqD] using SeqAt.EqAt.none_bool (A := A) (s := s) b
      | int b => obtain rfl := dat_int.mp dy; obtain ⟨t, rfl⟩ := ry; simpa [eqD] using SeqAt.EqAt.none_int (A := A) (s := s) b t
      | str b => obtain rfl := dat_str.mp dy; obtain ⟨t, rfl⟩ := ry; simpa [eqD] using SeqAt.EqAt.none_str (A := A) (s := s) b t
      | _ => simp [plain] at pe
    | bl a =>
      obtain rfl := dat_bl.mp dx
      cases rx
      cases e with
      | non => obtain rfl := dat_non.mp dy; cases ry; simpa [eqD] using SeqAt.EqAt.bool_none (A := A) (s := s) a
      | bl b => obtain rfl := dat_bl.mp dy; cases ry; simpa [eqD] using SeqAt.EqAt.bool_bool (A := A) (s := s) a b
      | int b => obtain rfl := dat_int.mp dy; obtain ⟨t, rfl⟩ := ry; simpa [eqD] using SeqAt.EqAt.bool_int (A := A) (s := s) a b t
      | str b => obtain rfl := dat_str.mp dy; obtain ⟨t, rfl⟩ := ry; simpa [eqD] using SeqAt.EqAt.bool_str (A := A) (s := s) a b t
      | _ => simp [plain] at pe
    | int a =>
      obtain rfl := dat_int.mp dx
      obtain ⟨t', rfl⟩ := rx
      cases e with
      | non => obtain rfl := dat_non.mp dy; cases ry; simpa [eqD] using SeqAt.EqAt.int_none (A := A) (s := s) a t'
      | bl b => obtain rfl := dat_bl.mp dy; cases ry; simpa [eqD] using SeqAt.EqAt.int_bool (A := A) (s := s) a t' b
      | int b => obtain rfl := dat_int.mp dy; obtain ⟨t, rfl⟩ := ry; simpa [eqD] using SeqAt.EqAt.int_int (A := A) (s := s) a t' b t
      | str b => obtain rfl := dat_str.mp dy; obtain ⟨t, rfl⟩ := ry; simpa [eqD] using SeqAt.EqAt.int_str (A := A) (s := s) a t' b t
      | _ => simp [plain] at pe
    | str a =>
      obtain rfl := dat_str.mp dx
      obtain ⟨t', rfl⟩ := rx
      cases e with
      | non => obtain rfl := dat_non.mp dy; cases ry; simpa [eqD] using SeqAt.EqAt.str_none (A := A) (s := s) a t'
      | bl b => obtain rfl := dat_bl.mp dy; cases ry; simpa [eqD] using SeqAt.EqAt.str_bool (A := A) (s := s) a t' b
      | int b => obtain rfl := dat_int.mp dy; obtain ⟨t, rfl⟩ := ry; simpa [eqD] using SeqAt.EqAt.str_int (A := A) (s := s) a t' b t
      | str b => obtain rfl := dat_str.mp dy; obtain ⟨t, rfl⟩ := ry; simpa [eqD] using SeqAt.EqAt.str_str (A := A) (s := s) a t' b t
      | _ => simp [plain] at pe
  | succ n ih =>
    intro A d e x y u v hu pd pe dx dy rx ry
    have flat : ∀ (z : D), plain (n + 1) z = true → (∀ zs, z ≠ .tup zs) → plain n z = true := by
      intro z pz nz
      cases z with
      | tup zs => exact absurd rfl (nz zs)
      | _ => first | (simp [plain]; done) | (simp [plain] at pz; done)
    have hun : A.units < cLine := by omega
    cases d with
    | tup ds =>
      obtain ⟨a, xs, rfl, ha, hx⟩ := dat_tup.mp dx
      obtain rfl : u = Value.ref a := rx
      obtain ⟨its, rv, pt, hz⟩ := tup_at ok ha
      cases e with
      | tup es =>
        obtain ⟨b, ys, rfl, hb, hy⟩ := dat_tup.mp dy
        obtain rfl : v = Value.ref b := ry
        obtain ⟨its2, rv2, pt2, hz2⟩ := tup_at ok hb
        by_cases hab : a = b
        · subst hab
          have := Dat.inj (K := K) (H := H) (n + 1) _ _ _ pd pe dx dy
          rw [← this, eqD_refl (n + 1) _ pd]
          exact SeqAt.EqAt.same _
        · refine SeqAt.EqAt.of_refs hab ?_
          have hl1 := hx.length.trans rv.length
          have hl2 := hy.length.trans rv2.length
          have key := SeqAt.RcAt.tuples (A := A) (s := s) (e := fun j => eqD (ds.getD j .non) (es.getD j .non)) pt pt2 hun (fun j h1 h2 => ?_)
          · rw [eqD_tup, eqDs_all]
            simp only [List.size_toArray, ← hl1, ← hl2] at key
            exact key
          · simp only [List.size_toArray] at h1 h2
            have e1 : ds[j]? = some (ds.getD j .non) := by rw [List.getD_eq_getElem?_getD, List.getElem?_eq_getElem (by omega)]; rfl
            have e2 : es[j]? = some (es.getD j .non) := by rw [List.getD_eq_getElem?_getD, List.getElem?_eq_getElem (by omega)]; rfl
            obtain ⟨x1, g1, g2⟩ := hx.get e1
            obtain ⟨y1, g3, g4⟩ := hy.get e2
            obtain ⟨u1, g5, g6⟩ := rv.get g1
            obtain ⟨v1, g7, g8⟩ := rv2.get g3
            have q1 : its.toArray[j] = u1 := by
              have : its[j] = u1 := Option.some.inj ((List.getElem?_eq_getElem (by omega)).symm.trans g5)
              simpa using this
            have q2 : its2.toArray[j] = v1 := by
              have : its2[j] = v1 := Option.some.inj ((List.getElem?_eq_getElem (by omega)).symm.trans g7)
              simpa using this
            rw [q1, q2]
            have pd' : ds.all (plain n) = true := by simpa [plain] using pd
            have pe' : es.all (plain n) = true := by simpa [plain] using pe
            exact ih A.in1 _ _ x1 y1 u1 v1 (by show A.units + 1 + n < cLine; omega) (all_get pd' e1) (all_get pe' e2) g2 g4 g6 g8
      | non => obtain rfl := dat_non.mp dy; cases ry; simpa [eqD] using SeqAt.EqAt.tuple_none (A := A) (s := s) pt hun
      | bl b => obtain rfl := dat_bl.mp dy; cases ry; simpa [eqD] using SeqAt.EqAt.tuple_bool (A := A) (s := s) b pt hun
      | int b => obtain rfl := dat_int.mp dy; obtain ⟨t, rfl⟩ := ry; simpa [eqD] using SeqAt.EqAt.tuple_int (A := A) (s := s) b t pt hun
      | str b => obtain rfl := dat_str.mp dy; obtain ⟨t, rfl⟩ := ry; simpa [eqD] using SeqAt.EqAt.tuple_str (A := A) (s := s) b t pt hun
      | _ => simp [plain] at pe
    | _ =>
      first
      | (simp [plain] at pd; done)
      | (cases e with
          | tup es =>
            obtain ⟨b, ys, rfl, hb, hy⟩ := dat_tup.mp dy
            obtain rfl : v = Value.ref b := ry
            obtain ⟨its2, rv2, pt2, hz2⟩ := tup_at ok hb
            first
            | (obtain rfl := dat_non.mp dx; cases rx; simpa [eqD] using SeqAt.EqAt.none_tuple (A := A) (s := s) pt2 hun)
            | (obtain rfl := dat_bl.mp dx; cases rx; simpa [eqD] using SeqAt.EqAt.bool_tuple (A := A) (s := s) _ pt2 hun)
            | (obtain rfl := dat_int.mp dx; obtain ⟨t, rfl⟩ := rx; simpa [eqD] using SeqAt.EqAt.int_tuple (A := A) (s := s) _ t pt2 hun)
            | (obtain rfl := dat_str.mp dx; obtain ⟨t, rfl⟩ := rx; simpa [eqD] using SeqAt.EqAt.str_tuple (A := A) (s := s) _ t pt2 hun)
          | _ =>
            first
            | (simp [plain] at pe; done)
            | exact ih A _ _ x y u v (by omega) (flat _ pd (fun _ z => by cases z)) (flat _ pe (fun _ z => by cases z)) dx dy rx ry)
def scaD : D → D → Bool
  | .non, .non => true | .non, .int _ => true | .int _, .non => true | .non, .bl _ => true | .bl _, .non => true | .non, .str _ => true | .str _, .non => true
  | .int _, .int _ => true | .bl _, .bl _ => true | .str _, .str _ => true
  | _, _ => false
def okEq (d e : D) : Bool := match d, e with
  | .tup ds, .tup es => plain 10 (.tup ds) && plain 10 (.tup es)
  | d, e => scaD d e
def rEqD : R3 := fun d e M Q => okEq d e = true ∧ Q (.bl (eqD d e)) M
theorem sca_of {K : PySem.W.Frag} {d e : D} {x y : V} (h : scaD d e = true) (dx : Dat K H d x) (dy : Dat K H e y) : scal x y = true ∧ decide (x = y) = eqD d e := by
  cases d <;> cases e <;> first
    | (simp [scaD] at h; done)
    | (simp only [Dat] at dx dy; subst dx; subst dy; refine ⟨rfl, ?_⟩; rw [Bool.eq_iff_iff]; simp [eqD])
theorem parts_eq {P : Program} {w : World} (ok : HOk P w H s.heap) {K : PySem.W.Frag} {A : Around} {ds es : List D} {xs ys : List V} {its its2 : List Value} {n : Nat} (hu : A.units + n < cLine) (pd : ds.all (plain n) = true) (pe : es.all (plain n) = true) (hx : Dats K H ds xs) (hy : Dats K H es ys) (rv : Vals xs its) (rv2 : Vals ys its2) :
    ∀ j (h1 : j < its.toArray.size) (h2 : j < its2.toArray.size), SeqAt.EqAt A s its.toArray[j] its2.toArray[j] (eqD (ds.getD j .non) (es.getD j .non)) := by
  intro j h1 h2
  have hl1 := hx.length.trans rv.length
  have hl2 := hy.length.trans rv2.length
  simp only [List.size_toArray] at h1 h2
  have e1 : ds[j]? = some (ds.getD j .non) := by rw [List.getD_eq_getElem?_getD, List.getElem?_eq_getElem (by omega)]; rfl
  have e2 : es[j]? = some (es.getD j .non) := by rw [List.getD_eq_getElem?_getD, List.getElem?_eq_getElem (by omega)]; rfl
  obtain ⟨x1, g1, g2⟩ := hx.get e1
  obtain ⟨y1, g3, g4⟩ := hy.get e2
  obtain ⟨u1, g5, g6⟩ := rv.get g1
  obtain ⟨v1, g7, g8⟩ := rv2.get g3
  have q1 : its.toArray[j] = u1 := by
    have : its[j] = u1 := Option.some.inj ((List.getElem?_eq_getElem (by omega)).symm.trans g5)
    simpa using this
  have q2 : its2.toArray[j] = v1 := by
    have : its2[j] = v1 := Option.some.inj ((List.getElem?_eq_getElem (by omega)).symm.trans g7)
    simpa using this
  rw [q1, q2]
  exact eqAt_D ok n A _ _ x1 y1 u1 v1 hu (all_get pd e1) (all_get pe e2) g2 g4 g6 g8
theorem o_eq (hu : X.A.units + 64 < cLine) : Op3 X (compareOp .Eq) rEqD := by
  constructor
  intro pins s σ H M x y d e v u Q I rm rx ry dx dy ⟨hk, q⟩
  by_cases ht : ∃ ds es, d = .tup ds ∧ e = .tup es
  · obtain ⟨ds, es, rfl, rfl⟩ := ht
    have hk : (plain 10 (.tup ds) && plain 10 (.tup es)) = true := hk
    rw [Bool.and_eq_true] at hk
    obtain ⟨a, xs, rfl, ha, hx⟩ := dat_tup.mp dx
    obtain ⟨b, ys, rfl, hb, hy⟩ := dat_tup.mp dy
    obtain rfl : v = Value.ref a := rx
    obtain rfl : u = Value.ref b := ry
    obtain ⟨its, rv, pt, hz⟩ := tup_at I.hok ha
    obtain ⟨its2, rv2, pt2, hz2⟩ := tup_at I.hok hb
    have hl1 := hx.length.trans rv.length
    have hl2 := hy.length.trans rv2.length
    refine SeqAt.RcAt.tuples (A := X.A) (s := s) (e := fun j => eqD (ds.getD j .non) (es.getD j .non)) pt pt2 (by omega) (parts_eq I.hok (n := 9) (by show X.A.units + 1 + 9 < cLine; omega) (by simpa [plain] using hk.1) (by simpa [plain] using hk.2) hx hy rv rv2) _ _ _ _ ?_
    refine ⟨.bl _, H, I, rfl, post_self rm (dat_bl.mpr rfl) ?_⟩
    simp only [List.size_toArray, ← hl1, ← hl2]
    rw [eqD_tup, eqDs_all] at q
    exact q
  · have hs : scaD d e = true := by
      unfold okEq at hk
      split at hk
      · exact absurd ⟨_, _, rfl, rfl⟩ ht
      · exact hk
    obtain ⟨h1, h2⟩ := sca_of hs dx dy
    exact op_eq pins s σ H x y v u _ I rx ry ⟨h1, by rw [h2]; exact post_self rm (dat_bl.mpr rfl) q⟩
theorem ints_dats {K : PySem.W.Frag} : ∀ {ns : List Int} {xs : List V}, Dats K H (ns.map D.int) xs → xs = ns.map V.int
  | [], xs, h => dats_nil.mp h
  | n :: ns, xs, h => by
    obtain ⟨v, vs, rfl, h1, h2⟩ := dats_cons.mp h
    rw [dat_int.mp h1, ints_dats h2]; rfl
def rLtT : R3 := fun d e M Q => ∃ ns ms : List Int, d = .tup (ns.map D.int) ∧ e = .tup (ms.map D.int) ∧ Q (.bl (HT.lexLt ns ms)) M
theorem o_ltT (hu : X.A.units + 64 < cLine) : Op3 X (compareOp .Lt) rLtT := by
  constructor
  intro pins s σ H M x y d e v u Q I rm rx ry dx dy ⟨ns, ms, e1, e2, q⟩
  subst e1; subst e2
  obtain ⟨a, xs, rfl, ha, hx⟩ := dat_tup.mp dx
  obtain ⟨b, ys, rfl, hb, hy⟩ := dat_tup.mp dy
  obtain rfl : v = Value.ref a := rx
  obtain rfl : u = Value.ref b := ry
  obtain ⟨its, rv, pt, hz⟩ := tup_at I.hok ha
  obtain ⟨its2, rv2, pt2, hz2⟩ := tup_at I.hok hb
  rw [ints_dats hx] at rv
  rw [ints_dats hy] at rv2
  exact HT.lt_tupInts pt pt2 (by simpa using intsAre_of rv) (by simpa using intsAre_of rv2) (by omega) ⟨.bl _, H, I, rfl, post_self rm (dat_bl.mpr rfl) q⟩
end
end L3
namespace L3
open PySem PySem.Spec PyProof.Rows L2
section
variable {X : Cx} {a b c e : Expr} {es : List Expr} {ta tb tc te : TE3} {t : TA3} {pos p : Pos}
def tNil3 : TA3 := fun _ M Q => Q [] M
def tCons3 (ta : TE3) (tr : TA3) : TA3 := fun ρ M Q => ta ρ M fun x M1 => tr ρ M1 fun xs M2 => Q (x :: xs) M2
theorem a_nil : PA3 X [] tNil3 := ⟨fun pos pins s σ H ρ M Q I r h => pa_nil pos pins s σ H _ I ⟨[], M, .refl _ _, dats_nil.mpr rfl, r.mem, h⟩⟩
theorem a_cons (ha : PE3 X e te) (hr : PA3 X es t) (hs : starEach (e :: es) X.env = (false, eval e X.env) :: starEach es X.env := by rfl) : PA3 X (e :: es) (tCons3 te t) := ⟨fun pos pins s σ H ρ M Q I r h =>
  pa_cons ha.dn hr.dn hs pos pins s σ H _ I (dn_of r h fun v H' d M' f dv r' q => dnA_of r' q fun vs H2 ds M2 f2 dvs r2 q2 =>
    ⟨d :: ds, M2, f.trans f2, dats_cons.mpr ⟨v, vs, rfl, Dat.mono (f2.ext r'.mem) _ _ dv, dvs⟩, r2.mem, q2⟩)⟩
def tTup3 (t : TA3) : TE3 := fun ρ M Q => t ρ M fun xs M1 => xs.length ≤ sizeLine ∧ Q (.tup xs) M1
def tLst3 (t : TA3) : TE3 := fun ρ M Q => t ρ M fun xs M1 => xs.length ≤ sizeLine ∧ ∀ p, M1 p = none → Q (.ref p) (updM M1 p (.lst xs))
theorem q_tup {x1} (h : PA3 X es t) : PE3 X (.Tuple es x1 pos) (tTup3 t) := up (pe_tup h.dn) fun σ H ρ M Q r q => dnA_of r q fun vs H' ds M' f dv r' ⟨hl, q⟩ =>
  ⟨by rw [← dv.length]; exact hl, fun p hp => ⟨.tup ds, M', f.trans (Fr.new hp fun _ _ => rfl), dat_tup.mpr ⟨p, vs, rfl, upd_same, Dats.mono (Ext.new hp) _ _ dv⟩, r'.mem.new hp, q⟩⟩
theorem q_lst (h : PA3 X es t) : PE3 X (.List es pos) (tLst3 t) := up (pe_lst h.dn) fun σ H ρ M Q r q => dnA_of r q fun vs H' ds M' f dv r' ⟨hl, q⟩ =>
  ⟨by rw [← dv.length]; exact hl, fun p hp => ⟨.ref p, updM M' p (.lst ds), f.trans (Fr.new hp fun _ hb => updM_ne hb), dat_ref.mpr rfl, r'.mem.newL hp dv, q p (r'.mem.free hp)⟩⟩
def Seq4 (M : Mp) (e : D) (es : List D) : Prop := e = .tup es ∨ e = .frl es ∨ ∃ a, e = .ref a ∧ M a = some (.lst es)
def rIx3 : R3 := fun d e M Q => ∃ xs i z, Seq4 M d xs ∧ e = .int i ∧ atI xs i = some z ∧ Q z M
theorem ixN_of {α β : Type} {xs : List α} {ys : List β} (h : xs.length = ys.length) {i : Int} {z : α} (e : atI xs i = some z) : ∃ j, ixN ys.length i = some j ∧ xs[j]? = some z := by
  unfold atI at e
  rw [h] at e
  cases q : ixN ys.length i with
  | none => rw [q] at e; cases e
  | some j => rw [q] at e; exact ⟨j, rfl, e⟩
theorem atI_dats {K : PySem.W.Frag} {H : Hp} {ds : List D} {xs : List V} (h : Dats K H ds xs) {i : Int} {z : D} (e : atI ds i = some z) : ∃ v, atI xs i = some v ∧ Dat K H z v := by
  obtain ⟨j, h1, h2⟩ := ixN_of h.length e
  obtain ⟨v, h3, h4⟩ := h.get h2
  refine ⟨v, ?_, h4⟩
  unfold atI
  rw [h1]
  exact h3
theorem q_ix (ha : PE3 X a ta) (hb : PE3 X b tb) (hs : PlainIx b := by intro _ _; rfl) : PE3 X (.Subscript a b pos) (tBin rIx3 ta tb) := up (pe_ix (ix_list.or ix_tup) ha.dn hb.dn hs) fun σ H ρ M Q r q =>
  dn_of r q fun v H' d M' f dv r' q => dn_of r' q fun u H2 e M2 f2 du r2 ⟨xs, i, z, hq, ei, at', q⟩ => by
    subst ei
    obtain rfl := dat_int.mp du
    have dv2 := Dat.mono (f2.ext r'.mem) _ _ dv
    have fin : ∀ w, Dat X.K H2 z w → Post X.K M H Q w H2 := fun w dw => ⟨z, M2, f.trans f2, dw, r2.mem, q⟩
    rcases hq with rfl | rfl | ⟨l, rfl, hl⟩
    · obtain ⟨p, ys, rfl, hp, hy⟩ := dat_tup.mp dv2
      obtain ⟨w, h1, h2⟩ := atI_dats hy at'
      exact .inr ⟨p, ys, i, w, rfl, rfl, SqT.of hp, h1, fin w h2⟩
    · obtain ⟨p, ys, rfl, hp, hy⟩ := dat_frl.mp dv2
      obtain ⟨w, h1, h2⟩ := atI_dats hy at'
      exact .inl ⟨p, ys, i, w, rfl, rfl, hp.sq, h1, fin w h2⟩
    · obtain rfl := dat_ref.mp dv2
      obtain ⟨ys, hp, hy⟩ := r2.mem.lst hl
      obtain ⟨w, h1, h2⟩ := atI_dats hy at'
      exact .inl ⟨l, ys, i, w, rfl, rfl, SqL.of hp, h1, fin w h2⟩
structure Call3 (X : Cx) (f : Value) (t : List D → Mp → DK → Prop) : Prop where
  run : ∀ (pins : List (Addr × Obj)) (s : Shared) (σ : St) (H : Hp) (M : Mp) (xs : List V) (ds : List D) (us : List Value) (Q : DK), Inv X pins σ H s → RepM X.K H M → Vals xs us → Dats X.K H ds xs → t ds M Q →
    wpAny (model X.prog X.w) X.A (call f us) (EP X pins σ (Post X.K M H Q)) X.xe s
theorem call3 {f : Value} {r : List V → Hp → VK → Prop} {t : List D → Mp → DK → Prop} (h : CallR X f r) (g : ∀ H M xs ds Q, RepM X.K H M → Dats X.K H ds xs → t ds M Q → r xs H (Post X.K M H Q)) : Call3 X f t :=
  ⟨fun pins s σ H M xs ds us Q I rm rs dx q => h pins s σ H xs us _ I rs (g H M xs ds Q rm dx q)⟩
def tCB3 (r : List D → Mp → DK → Prop) (t : TA3) : TE3 := fun ρ M Q => t ρ M fun ds M1 => r ds M1 Q
variable {x : Str} {id T : String} {r : List D → Mp → DK → Prop}
theorem q_blt (hc : Call3 X (.builtin id) r) (hg : Gl X x) (hm : X.mg x = none) (hv : bootBuiltins x = some (.builtin id)) (ha : PA3 X (e :: es) t) (hn : x ≠ "__name__" := by decide) (hdb : (x == ("__debug__" : Str)) = false := by decide)
    (he : starEach (e :: es) X.env = (false, eval e X.env) :: starEach es X.env := by rfl) (hpl : (backTo pos (starEach es X.env)).any (·.1) = false := by rfl) : PE3 X (.Call (.Name x p) (e :: es) [] pos) (tCB3 r t) := by
  constructor
  intro pins s σ H ρ M Q I r h
  refine wpAny_Call_Name_kw (ld_blt I hg hm hv ?_ hn hdb)
  refine PyProof.Rows.callWith_builtin1 (thn (ha.run pos pins s σ H ρ M _ I r h) fun us s1 ⟨vs, H1, I1, r1, ds, M1, f1, d1, rm1, q1⟩ => ?_) he hpl
  exact thn (hc.run pins s1 σ H1 M1 vs ds us Q I1 rm1 r1 d1 q1) fun _ _ ⟨z, H3, I3, r3, p⟩ => ⟨z, H3, I3, r3, p.back f1⟩
theorem dats1 {K : PySem.W.Frag} {H : Hp} {d : D} {xs : List V} (h : Dats K H [d] xs) : ∃ v, xs = [v] ∧ Dat K H d v := by
  obtain ⟨v, vs, rfl, h1, h2⟩ := dats_cons.mp h
  rw [dats_nil.mp h2]
  exact ⟨v, rfl, h1⟩
theorem dats2 {K : PySem.W.Frag} {H : Hp} {d e : D} {xs : List V} (h : Dats K H [d, e] xs) : ∃ v u, xs = [v, u] ∧ Dat K H d v ∧ Dat K H e u := by
  obtain ⟨v, vs, rfl, h1, h2⟩ := dats_cons.mp h
  obtain ⟨u, rfl, h3⟩ := dats1 h2
  exact ⟨v, u, rfl, h1, h3⟩
def rLen : List D → Mp → DK → Prop := fun ds M Q => ∃ d xs, ds = [d] ∧ Seq4 M d xs ∧ Q (.int xs.length) M
theorem c_len : Call3 X (.builtin "len") rLen := call3 call_len_seq fun H M xs ds Q rm dx ⟨d, ys, ei, hs, q⟩ => by
  subst ei
  obtain ⟨v, rfl, hv⟩ := dats1 dx
  rcases hs with rfl | rfl | ⟨l, rfl, hl⟩
  · obtain ⟨p, zs, rfl, hp, hz⟩ := dat_tup.mp hv
    exact ⟨p, zs, rfl, .inr (SqT.of hp), post_self rm (dat_int.mpr (by rw [hz.length])) q⟩
  · obtain ⟨p, zs, rfl, hp, hz⟩ := dat_frl.mp hv
    exact ⟨p, zs, rfl, .inl hp.sq, post_self rm (dat_int.mpr (by rw [hz.length])) q⟩
  · obtain rfl := dat_ref.mp hv
    obtain ⟨zs, hp, hz⟩ := rm.lst hl
    exact ⟨l, zs, rfl, .inl (SqL.of hp), post_self rm (dat_int.mpr (by rw [hz.length])) q⟩
def rMax2 : List D → Mp → DK → Prop := fun ds M Q => ∃ i j : Int, ds = [.int i, .int j] ∧ Q (.int (max i j)) M
def rMin2 : List D → Mp → DK → Prop := fun ds M Q => ∃ i j : Int, ds = [.int i, .int j] ∧ Q (.int (min i j)) M
theorem c_max2 (hc : X.calm = true) : Call3 X (.builtin "max") rMax2 := call3 (call_max2 hc) fun H M xs ds Q rm dx ⟨i, j, ei, q⟩ => by
  subst ei
  obtain ⟨v, u, rfl, hv, hu⟩ := dats2 dx
  obtain rfl := dat_int.mp hv
  obtain rfl := dat_int.mp hu
  refine ⟨i, j, rfl, post_self rm (dat_int.mpr rfl) ?_⟩
  have e : (if j > i then j else i) = max i j := by split <;> omega
  rw [e]
  exact q
theorem c_min2 (hc : X.calm = true) : Call3 X (.builtin "min") rMin2 := call3 (call_min2 hc) fun H M xs ds Q rm dx ⟨i, j, ei, q⟩ => by
  subst ei
  obtain ⟨v, u, rfl, hv, hu⟩ := dats2 dx
  obtain rfl := dat_int.mp hv
  obtain rfl := dat_int.mp hu
  refine ⟨i, j, rfl, post_self rm (dat_int.mpr rfl) ?_⟩
  have e : (if j < i then j else i) = min i j := by split <;> omega
  rw [e]
  exact q
inductive Ty3 (M : Mp) : D → String → Prop where
  | non : Ty3 M .non "NoneType"
  | bl (b : Bool) : Ty3 M (.bl b) "bool"
  | int (i : Int) : Ty3 M (.int i) "int"
  | str (x : Str) : Ty3 M (.str x) "str"
  | tup (ds : List D) : Ty3 M (.tup ds) "tuple"
  | lst {a : Addr} {ds : List D} (h : M a = some (.lst ds)) : Ty3 M (.ref a) "list"
  | dct : Ty3 M (.thg "dict") "dict"
abbrev SpP := List D → (D → Prop) → Prop
def spP (K : PySem.W.Frag) (S : SpP) : Sp := fun vs H Q _ => ∃ ds Q0, Dats K H ds vs ∧ S ds Q0 ∧ ∀ d v H', Q0 d → Dat K H' d v → (∀ b o, H b = some o → H' b = some o) → Q v H'
abbrev Sp3 := List D → Mp → DK → Prop
def sp3 (K : PySem.W.Frag) (S : Sp3) : Sp := fun vs H Q _ => ∃ ds M Q0, Dats K H ds vs ∧ RepM K H M ∧ S ds M Q0 ∧ ∀ d M' v H', Q0 d M' → Dat K H' d v → RepM K H' M' → Fr M H M' H' → Q v H'
theorem dats_app_nil {K : PySem.W.Frag} {H : Hp} {ds : List D} {vs : List V} (h : Dats K H ds vs) : Dats K H ds (vs ++ []) := by simpa using h
theorem Ext.keep {H H' : Hp} (h : ∀ b o, H b = some o → H' b = some o) : Ext H H' := ⟨fun b _ e => h b _ e, fun b _ _ e => h b _ e⟩
theorem RepM.keep {K : PySem.W.Frag} {H H' : Hp} {M : Mp} (r : RepM K H M) (h : ∀ b o, H b = some o → H' b = some o) : RepM K H' M := fun a o e => by
  cases o with
  | lst ds =>
    obtain ⟨xs, e1, e2⟩ := r.lst e
    exact ⟨xs, h _ _ e1, Dats.mono (Ext.keep h) _ _ e2⟩
variable {k : Nat} {f : Addr} {fd : FuncData} {ps : List Str}
def tCallP (S : SpP) (t : TA3) : TE3 := fun ρ M Q => t ρ M fun ds M1 => S ds fun d => Q d M1
def tCall3 (S : Sp3) (t : TA3) : TE3 := fun ρ M Q => t ρ M fun ds M1 => S ds M1 Q
theorem q_callP {S : SpP} (F : FnOk X.prog X.w X.K X.mg X.base CX0 k f fd ps (spP X.K S)) (hr : Room k X.A) (hg : Gl X x) (hm : X.mg x = some (.ref f)) (hk : PySem.W.keepIn X.K (.ref f) = true) (hb : Binds X.K fd ps [])
    (ha : PA3 X (e :: es) t) (hdb : (x == ("__debug__" : Str)) = false := by decide) (he : starEach (e :: es) X.env = (false, eval e X.env) :: starEach es X.env := by rfl) (hpl : (backTo pos (starEach es X.env)).any (·.1) = false := by rfl) :
    PE3 X (.Call (.Name x p) (e :: es) [] pos) (tCallP S t) :=
  up (pe_call (dvs := []) (E := E0) F hr hg hm hk hb .nil pass0 ha.dn hdb he hpl) fun σ H ρ M Q r q => dnA_of r q fun vs H' ds M' f dv r' q =>
    ⟨ds, _, dats_app_nil dv, q, fun d v H2 q2 d2 kp => ⟨d, M', f.trans fun b o n e => ⟨kp b o e, n⟩, d2, r'.mem.keep kp, q2⟩⟩
theorem q_call {S : Sp3} (F : FnOk X.prog X.w X.K X.mg X.base CX0 k f fd ps (sp3 X.K S)) (hr : Room k X.A) (hg : Gl X x) (hm : X.mg x = some (.ref f)) (hk : PySem.W.keepIn X.K (.ref f) = true) (hb : Binds X.K fd ps [])
    (ha : PA3 X (e :: es) t) (hdb : (x == ("__debug__" : Str)) = false := by decide) (he : starEach (e :: es) X.env = (false, eval e X.env) :: starEach es X.env := by rfl) (hpl : (backTo pos (starEach es X.env)).any (·.1) = false := by rfl) :
    PE3 X (.Call (.Name x p) (e :: es) [] pos) (tCall3 S t) :=
  up (pe_call (dvs := []) (E := E0) F hr hg hm hk hb .nil pass0 ha.dn hdb he hpl) fun σ H ρ M Q r q => dnA_of r q fun vs H' ds M' f dv r' q =>
    ⟨ds, M', _, dats_app_nil dv, r'.mem, q, fun d M2 v H2 q2 d2 rm2 f2 => ⟨d, M2, f.trans f2, d2, rm2, q2⟩⟩
end
section
variable {X : Cx} {st : Stmt} {rest : List Stmt} {t u : TS3} {e : Expr} {te : TE3} {pos : Pos}
def tNext3 : TS3 := fun D ρ M => D.nx ρ M
def tSeq3 (t u : TS3) : TS3 := fun D ρ M => t { D with nx := u D } ρ M
theorem PS3.dn {st : Stmt} {t : TS3} (h : PS3 X st t) : PS X st (dnS X.K t) := fun pins s σ H D' I ⟨ρ, M, D, r, q, k1, k2, k3, k4⟩ =>
  thn (h.run pins s σ H ρ M D I r q) fun f s' z => by
    cases f with
    | next => obtain ⟨σ', H', I', p⟩ := z; exact ⟨σ', H', I', k1 _ _ p⟩
    | brk => obtain ⟨σ', H', I', p⟩ := z; exact ⟨σ', H', I', k3 _ _ p⟩
    | cont => obtain ⟨σ', H', I', p⟩ := z; exact ⟨σ', H', I', k4 _ _ p⟩
    | ret u => obtain ⟨v, σ', H', I', rv, p⟩ := z; exact ⟨v, σ', H', I', rv, k2 _ _ p⟩
theorem upSs {sts : List Stmt} {te : TS} {t : TS3} (h : PSs X sts te) (g : ∀ σ H ρ M D, Rep X.K H σ ρ M → t D ρ M → te (ends X.K M H D) σ H) : PSs3 X sts t :=
  ⟨fun pins s σ H ρ M D I r q => h pins s σ H _ I (g σ H ρ M D r q)⟩
theorem dnS_self {K : PySem.W.Frag} {M0 : Mp} {H0 : Hp} {σ : St} {H : Hp} {ρ : En} {M : Mp} {D : En3} {t : TS3} (f : Fr M0 H0 M H) (r : Rep K H σ ρ M) (q : t D ρ M) : dnS K t (ends K M0 H0 D) σ H :=
  ⟨ρ, M, D, r, q, fun _ _ p => p.back f, fun _ _ p => p.back f, fun _ _ p => p.back f, fun _ _ p => p.back f⟩
theorem b_nil : PSs3 X [] tNext3 := upSs pss_nil fun σ H ρ M D r q => ⟨ρ, M, .refl _ _, r, q⟩
theorem b_cons (h1 : PS3 X st t) (h2 : PSs3 X rest u) : PSs3 X (st :: rest) (tSeq3 t u) := upSs (pss_cons h1.dn h2.dn) fun σ H ρ M D r q =>
  ⟨ρ, M, _, r, q, fun σ' H' ⟨ρ', M', f, r', q'⟩ => dnS_self f r' q', fun _ _ p => p, fun _ _ p => p, fun _ _ p => p⟩
theorem b_one (h1 : PS3 X st t) : PSs3 X [st] t := upSs (pss_one h1.dn) fun σ H ρ M D r q => dnS_self (.refl _ _) r q
def tRet3 (te : TE3) : TS3 := fun D ρ M => te ρ M D.rt
theorem s_ret (he : PE3 X e te) : PS3 X (.Return (some e) pos) (tRet3 te) := upS (ps_ret he.dn) fun σ H ρ M D r q => ⟨ρ, M, _, r, q, fun _ _ p => p⟩
def tIfS3 (c : TT3) (t u : TS3) : TS3 := fun D ρ M => c ρ M fun b M1 => if b = true then t D ρ M1 else u D ρ M1
theorem s_if {c : Expr} {a b : List Stmt} {tc : TT3} (hc : PT3 X c tc) (ha : PSs3 X a t) (hb : PSs3 X b u) : PS3 X (.If c a b pos) (tIfS3 tc t u) := upS (ps_if hc.dn ha.dn hb.dn) fun σ H ρ M D r q => dnT_of r q fun k H' M' f r' q => by
  cases k with
  | true => exact dnS_self f r' q
  | false => exact dnS_self f r' q
def tSet3 (i : Nat) (te : TE3) : TS3 := fun D ρ M => te ρ M fun x M1 => D.nx (ρ.set i (some x)) M1
theorem s_set {i : Nat} {x : Str} {pos' : Pos} (hN : X.N.Nodup) (hi : X.N[i]? = some x) (hx : Loc X.env.scope x) (he : PE3 X e te) (hs : swapsWith e (some (.Name x pos')) pos.line X.env = pure false := by rfl) (hf : X.fn x = true ∨ X.env.scope.names.lookup x = some .local := by first | exact .inl rfl | exact .inr rfl | assumption) :
    PS3 X (.Assign [.Name x pos'] e pos) (tSet3 i te) := upS (ps_set hN hi hx he.dn hs hf) fun σ H ρ M D r q => dn_of r q fun v H' d M' f dv r' q => ⟨ρ.set i (some d), M', f, r'.set dv, q⟩
abbrev TG3 := D → En → Mp → (En → Mp → Prop) → Prop
abbrev TGs3 := List D → En → Mp → (En → Mp → Prop) → Prop
structure PG3 (X : Cx) (target : Expr) (t : TG3) : Prop where
  run : ∀ (pins : List (Addr × Obj)) (s : Shared) (σ : St) (H : Hp) (ρ : En) (M : Mp) (v : V) (d : D) (u : Value) (Q : En → Mp → Prop), Inv X pins σ H s → Rep X.K H σ ρ M → RelV v u → Dat X.K H d v → t d ρ M Q →
    wpAny (model X.prog X.w) X.A (assign target X.env u) (fun _ s' => ∃ σ' H', Inv X pins σ' H' s' ∧ PostN X.K M H Q σ' H') X.xe s
structure PGs3 (X : Cx) (ts : List Expr) (t : TGs3) : Prop where
  run : ∀ (pins : List (Addr × Obj)) (s : Shared) (σ : St) (H : Hp) (ρ : En) (M : Mp) (vs : List V) (ds : List D) (us : List Value) (Q : En → Mp → Prop), Inv X pins σ H s → Rep X.K H σ ρ M → Vals vs us → Dats X.K H ds vs → t ds ρ M Q →
    wpAny (model X.prog X.w) X.A (assignInOrder ((assignEach ts X.env).map (·.2)) us) (fun _ s' => ∃ σ' H', Inv X pins σ' H' s' ∧ PostN X.K M H Q σ' H') X.xe s
def gName3 (i : Nat) : TG3 := fun d ρ M Q => Q (ρ.set i (some d)) M
theorem g_name {i : Nat} {x : Str} (hN : X.N.Nodup) (hi : X.N[i]? = some x) (hx : Loc X.env.scope x) (hf : X.fn x = true ∨ X.env.scope.names.lookup x = some .local := by first | exact .inl rfl | exact .inr rfl | assumption) : PG3 X (.Name x pos) (gName3 i) :=
  ⟨fun pins s σ H ρ M v d u Q I r rv dv q => pg_name hN hi hx hf pins s σ H v u _ I rv ⟨ρ.set i (some d), M, .refl _ _, r.set dv, q⟩⟩
variable {o : Expr} {to : TE3} {es : List Expr} {t3 : TA3} {apos : Pos}
@[irreducible] def Hold (p : Prop) : Prop := p
theorem Hold.mk {p : Prop} (h : p) : Hold p := by unfold Hold; exact h
theorem Hold.out {p : Prop} (h : Hold p) : p := by unfold Hold at h; exact h
structure ItIs (K : PySem.W.Frag) (J : It) (inv : Hp → Prop) (ds : List L3.D) : Prop where
  go : ∀ i H, i < ds.length → inv H → J.go i H
  yld : ∀ i H x H', i < ds.length → inv H → J.yld i H x H' → H' = H ∧ ∃ d, ds[i]? = some d ∧ Dat K H d x
  stop : ∀ H, inv H → J.stop ds.length H
theorem PG3.dn {tg : Expr} {g : TG3} (h : PG3 X tg g) : PG X tg (fun v σ H Q => ∃ ρ M d Q0, Rep X.K H σ ρ M ∧ Dat X.K H d v ∧ g d ρ M Q0 ∧ ∀ σ' H', PostN X.K M H Q0 σ' H' → Q σ' H') :=
  fun pins s σ H v u Q I rv ⟨ρ, M, d, Q0, r, dv, q, k⟩ => thn (h.run pins s σ H ρ M v d u Q0 I r rv dv q) fun _ _ ⟨σ', H', I', p⟩ => ⟨σ', H', I', k _ _ p⟩
variable {tg iter : Expr} {body : List Stmt} {g : TG3} {tb : TS3}
theorem itr_is {K : PySem.W.Frag} {n : Nat} : ItIs K (Itr 0 n) (fun _ => True) ((List.range n).map fun (k : Nat) => L3.D.int (k : Int)) :=
  ⟨fun i H hi _ => by show i < n; simpa using hi, fun i H x H' hi _ y => ⟨y.1, L3.D.int (i : Int), by
    have hi : i < n := by simpa using hi
    simp [hi], dat_int.mpr (by rw [y.2, Int.zero_add])⟩, fun H _ => by show n ≤ _; simp⟩
end
section
variable {P : Program} {w : World} {K : PySem.W.Frag} {mg : Str → Option Value} {base : Heap}
def start3 (N : List Str) (ds : List D) : En := ds.map some ++ List.replicate (N.length - ds.length) none
theorem rep_start {H : Hp} {N : List Str} {ds : List D} {vs : List V} {M : Mp} (h : Dats K H ds vs) (rm : RepM K H M) : Rep K H (L2.start N vs) (start3 N ds) M := by
  have hl := h.length
  refine ⟨fun i d e => ?_, by unfold L2.start start3; simp [hl], rm⟩
  unfold start3 at e
  by_cases hi : i < ds.length
  · rw [List.getElem?_append_left (by simpa using hi), List.getElem?_map] at e
    cases q : ds[i]? with
    | none => rw [q] at e; cases e
    | some d' =>
      rw [q] at e
      cases e
      obtain ⟨v, h1, h2⟩ := h.get q
      refine ⟨v, ?_, h2⟩
      unfold L2.start
      rw [List.getElem?_append_left (by simp; omega), List.getElem?_map, h1]
      rfl
  · rw [List.getElem?_append_right (by simpa using hi), List.getElem?_replicate] at e
    split at e <;> cases e
theorem fnP {x qual : Str} {st : Stmt} {f : Addr} {fd : FuncData} {N ps : List Str} {k : Nat} {S : SpP} (F : Fun K x qual st f fd) (Sc : FnScope N ps (defScope st)) (len : ∀ ds Q, S ds Q → ds.length = ps.length)
    (hbody : ∀ (cdv : Value) (A : Around) (outer : List Env) (s : Shared) (H : Hp), Room k (A.deeper (envOfC qual (defScope st) s.heap.objs.size f cdv)) →
      ∃ t, PSs3 (cxOf CX0 P w K mg base N qual (defScope st) f cdv A outer s H E0).nox (defBody st) t ∧ ∀ ds Q, S ds Q → t { nx := fun _ _ => Q .non, rt := fun d _ => Q d } (start3 N ds) noM) :
    FnOk P w K mg base CX0 (k + 1) f fd ps (spP K S) := by
  refine F.ok Sc (fun vs H Q E h => ?_) (fun cdv A outer s H vs Q E hr h => ?_)
  · obtain ⟨ds, Q0, h1, h2, _⟩ := h
    rw [← h1.length, len ds Q0 h2]
  · obtain ⟨ds, Q0, h1, h2, h3⟩ := h
    obtain ⟨t, ht, hq⟩ := hbody cdv A outer s H hr
    have hE : (cxOf CX0 P w K mg base N qual (defScope st) f cdv A outer s H E).nox = (cxOf CX0 P w K mg base N qual (defScope st) f cdv A outer s H E0).nox := rfl
    refine ⟨_, PSs3.dn (by rw [hE]; exact ht), start3 N ds, noM, _, rep_start h1 RepM.no, hq ds Q0 h2, fun σ' H' ⟨ρ', M', f', r', q⟩ => ?_, fun v H' ⟨d, M', f', dv, rm, q⟩ => ?_, fun _ _ ⟨_, _, _, _, z⟩ => z.elim, fun _ _ ⟨_, _, _, _, z⟩ => z.elim⟩
    · exact h3 .non .non H' q (dat_non.mpr rfl) fun b o e => (f' b o rfl e).1
    · exact h3 d v H' q dv fun b o e => (f' b o rfl e).1
theorem fn3 {x qual : Str} {st : Stmt} {f : Addr} {fd : FuncData} {N ps : List Str} {k : Nat} {S : Sp3} (F : Fun K x qual st f fd) (Sc : FnScope N ps (defScope st)) (len : ∀ ds M Q, S ds M Q → ds.length = ps.length)
    (hbody : ∀ (cdv : Value) (A : Around) (outer : List Env) (s : Shared) (H : Hp), Room k (A.deeper (envOfC qual (defScope st) s.heap.objs.size f cdv)) →
      ∃ t, PSs3 (cxOf CX0 P w K mg base N qual (defScope st) f cdv A outer s H E0).nox (defBody st) t ∧ ∀ ds M Q, S ds M Q → t { nx := fun _ M' => Hold (∃ M0, Le M0 M' ∧ Q .non M0), rt := fun d M' => Hold (∃ M0, Le M0 M' ∧ Q d M0) } (start3 N ds) M) :
    FnOk P w K mg base CX0 (k + 1) f fd ps (sp3 K S) := by
  refine F.ok Sc (fun vs H Q E h => ?_) (fun cdv A outer s H vs Q E hr h => ?_)
  · obtain ⟨ds, M, Q0, h1, _, h2, _⟩ := h
    rw [← h1.length, len ds M Q0 h2]
  · obtain ⟨ds, M, Q0, h1, rm, h2, h3⟩ := h
    obtain ⟨t, ht, hq⟩ := hbody cdv A outer s H hr
    have hE : (cxOf CX0 P w K mg base N qual (defScope st) f cdv A outer s H E).nox = (cxOf CX0 P w K mg base N qual (defScope st) f cdv A outer s H E0).nox := rfl
    refine ⟨_, PSs3.dn (by rw [hE]; exact ht), start3 N ds, M, _, rep_start h1 rm, hq ds M Q0 h2, fun σ' H' ⟨ρ', M', f', r', z⟩ => ?_, fun v H' ⟨d, M', f', dv, rm', z⟩ => ?_, fun _ _ ⟨_, _, _, _, z⟩ => z.elim, fun _ _ ⟨_, _, _, _, z⟩ => z.elim⟩
    · obtain ⟨M0, l, q⟩ := z.out
      exact h3 .non M0 .non H' q (dat_non.mpr rfl) (r'.mem.le l) (f'.le l)
    · obtain ⟨M0, l, q⟩ := z.out
      exact h3 d M0 v H' q dv (rm'.le l) (f'.le l)
end
end L3
namespace L3
open PySem PySem.Spec PyProof.Rows L2
section
variable {X : Cx}
def intsOf : List D → Option (List Int)
  | [] => some []
  | .int i :: ds => (intsOf ds).map (i :: ·)
  | _ :: _ => none
theorem intsOf_map : ∀ {ds : List D} {ns : List Int}, intsOf ds = some ns → ds = ns.map D.int
  | [], ns, h => by cases h; rfl
  | .int i :: ds, ns, h => by
    have h : (intsOf ds).map (i :: ·) = some ns := h
    cases q : intsOf ds with
    | none => rw [q] at h; cases h
    | some ms =>
      rw [q] at h
      have h : i :: ms = ns := Option.some.inj h
      subst h
      rw [intsOf_map q]; rfl
  | .non :: _, ns, h => by cases h
  | .bl _ :: _, ns, h => by cases h
  | .str _ :: _, ns, h => by cases h
  | .ty _ :: _, ns, h => by cases h
  | .ref _ :: _, ns, h => by cases h
  | .tup _ :: _, ns, h => by cases h
  | .frl _ :: _, ns, h => by cases h
  | .thg _ :: _, ns, h => by cases h
  | .exc _ _ _ :: _, ns, h => by cases h
def ltD : D → D → Option Bool
  | .int i, .int j => some (decide (i < j))
  | .tup ds, .tup es => match intsOf ds, intsOf es with
    | some ns, some ms => some (HT.lexLt ns ms)
    | _, _ => none
  | _, _ => none
def rLtD : R3 := fun d e M Q => ∃ b, ltD d e = some b ∧ Q (.bl b) M
theorem o_ltD (hu : X.A.units + 64 < cLine) : Op3 X (compareOp .Lt) rLtD := by
  constructor
  intro pins s σ H M x y d e v u Q I rm rx ry dx dy ⟨b, hb, q⟩
  unfold ltD at hb
  split at hb
  · rename_i i j
    have hb := Option.some.inj hb
    subst hb
    exact o_lt.run pins s σ H M x y _ _ v u Q I rm rx ry dx dy ⟨i, j, rfl, rfl, q⟩
  · rename_i ds es
    split at hb
    · rename_i ns ms h1 h2
      have hb := Option.some.inj hb
      subst hb
      exact (o_ltT hu).run pins s σ H M x y _ _ v u Q I rm rx ry dx dy ⟨ns, ms, by rw [intsOf_map h1], by rw [intsOf_map h2], q⟩
    · cases hb
  · cases hb
theorem boot3_len : bootBuiltins "len" = some (.builtin "len") := by decide +kernel
theorem boot3_min : bootBuiltins "min" = some (.builtin "min") := by decide +kernel
theorem boot3_max : bootBuiltins "max" = some (.builtin "max") := by decide +kernel
theorem boot3_isinstance : bootBuiltins "isinstance" = some (.builtin "isinstance") := by decide +kernel
theorem boot3_ValueError : bootBuiltins "ValueError" = some (.type "ValueError") := by decide +kernel
end
theorem pow_mono {m n : Nat} (h : m ≤ n) : 2 ^ m ≤ 2 ^ n := Nat.pow_le_pow_right (by decide) h
theorem Sm.le {m n : Nat} {i : Int} (h : Sm m i) (l : m ≤ n) : Sm n i := Nat.lt_of_lt_of_le h (pow_mono l)
theorem Sm.of_abs {n : Nat} {i j : Int} (h : Sm n j) (l : i.natAbs ≤ j.natAbs) : Sm n i := Nat.lt_of_le_of_lt l h
theorem Sm.add {m n : Nat} {i j : Int} (h1 : Sm m i) (h2 : Sm n j) : Sm (max m n + 1) (i + j) := by
  have a := Nat.lt_of_lt_of_le h1 (pow_mono (Nat.le_max_left m n))
  have b := Nat.lt_of_lt_of_le h2 (pow_mono (Nat.le_max_right m n))
  show (i + j).natAbs < 2 ^ (max m n + 1)
  rw [Nat.pow_succ]
  have := Int.natAbs_add_le i j
  omega
theorem Sm.neg {n : Nat} {i : Int} (h : Sm n i) : Sm n (-i) := by
  show (-i).natAbs < _
  rw [Int.natAbs_neg]; exact h
theorem Sm.sub {m n : Nat} {i j : Int} (h1 : Sm m i) (h2 : Sm n j) : Sm (max m n + 1) (i - j) := by
  rw [Int.sub_eq_add_neg]; exact h1.add h2.neg
theorem Sm.mul {m n : Nat} {i j : Int} (h1 : Sm m i) (h2 : Sm n j) : Sm (m + n) (i * j) := by
  show (i * j).natAbs < 2 ^ (m + n)
  rw [Int.natAbs_mul, Nat.pow_add]
  exact Nat.mul_lt_mul'' h1 h2
theorem Sm.abs {n : Nat} {i : Int} (h : Sm n i) : Sm n (i.natAbs : Int) := h
theorem Sm.emod {n : Nat} {i j : Int} (hj : 0 < j) (h : Sm n j) : Sm n (i % j) := by
  have h1 := Int.emod_nonneg i (show j ≠ 0 by omega)
  have h2 := Int.emod_lt_of_pos i hj
  exact h.of_abs (by omega)
instance {n : Nat} {i : Int} : Decidable (Sm n i) := inferInstanceAs (Decidable (_ < _))
theorem Sm.sign (i : Int) : Sm 1 i.sign := by
  rcases Int.lt_trichotomy i 0 with h | h | h
  · rw [Int.sign_eq_neg_one_of_neg h]; decide
  · subst h; decide
  · rw [Int.sign_eq_one_of_pos h]; decide
theorem MulOk.of {m n : Nat} {i j : Int} (h1 : Sm m i) (h2 : Sm n j) (h : m + n ≤ 100000) : MulOk i j := ⟨m, n, h1, h2, h⟩
theorem Sm.lit (i : Int) : Sm (i.natAbs.log2 + 1) i := Nat.lt_log2_self
theorem Sm.two : Sm 2 2 := by decide
theorem Sm.one : Sm 1 1 := by decide
theorem Sm.zero : Sm 0 0 := by decide
theorem kit_same {K : PySem.W.Frag} {n : String} : PySem.W.kitOne K (.type n) (.type n) = some true := by simp [PySem.W.kitOne]
structure Pl where
  x : Int
  y : Int
  deriving DecidableEq
def Pl.d (p : Pl) : D := .tup [.int p.x, .int p.y]
def Pl.Ok (n : Nat) (p : Pl) : Prop := Sm n p.x ∧ Sm n p.y
end L3
namespace L3
open PySem L2
def S_lawOf : SpP := fun ds Q => ∃ ns : List Int, ds = [.frl (ns.map D.int)] ∧ ns.length ≤ 63 ∧ Q (.bl true)
theorem dats_ints {K : PySem.W.Frag} {H : Hp} : ∀ (ns : List Int), Dats K H (ns.map D.int) (ns.map V.int)
  | [] => dats_nil.mpr rfl
  | n :: ns => dats_cons.mpr ⟨_, _, rfl, dat_int.mpr rfl, dats_ints ns⟩
theorem law_sp {K : PySem.W.Frag} {H : Hp} {a : Addr} {ns : List Int} {E : XK} (hl : ns.length ≤ 63) (hO : Only H) (hS : SqL K H a (ns.map V.int)) : spP K S_lawOf [.ref a] H (fun v _ => v = .bl true) E := by
  have hz : Fz K H a (ns.map V.int) := by
    rcases hS with (h | ⟨o, h⟩) | h
    · rcases hO a with z | ⟨o, xs, z⟩
      · rw [z] at h; cases h
      · rw [z] at h; cases h
    · exact .inl ⟨o, h⟩
    · exact .inr h
  exact ⟨[.frl (ns.map D.int)], fun d => d = .bl true, Dats.one (dat_frl.mpr ⟨a, _, rfl, hz, dats_ints ns⟩), ⟨ns, rfl, hl, rfl⟩, fun d v H' q dv _ => by subst q; exact dat_bl.mp dv⟩
end L3
namespace L3
theorem range_get {n i : Nat} {x : L3.D} (h : ((List.range n).map fun (k : Nat) => L3.D.int (k : Int))[i]? = some x) : i < n ∧ x = .int (i : Int) := by
  rw [List.getElem?_map] at h
  by_cases hi : i < n
  · rw [List.getElem?_range hi] at h
    exact ⟨hi, (Option.some.inj h).symm⟩
  · rw [List.getElem?_eq_none (by simp; omega)] at h
    cases h
end L3
namespace L3
def frac (a b : Int) : Pl := ⟨a.fdiv ((Int.gcd a b : Int) * b.sign), b.fdiv ((Int.gcd a b : Int) * b.sign)⟩
end L3
local macro_rules | `(tactic| walk_at "sm") => `(tactic| first | assumption | exact L3.Sm.sign _ | exact L3.Sm.zero | exact L3.Sm.one | exact L3.Sm.two | ((with_reducible apply L3.Sm.mul) <;> walk_at "sm") | ((with_reducible apply L3.Sm.sub) <;> walk_at "sm") | ((with_reducible apply L3.Sm.add) <;> walk_at "sm") | ((with_reducible apply L3.Sm.neg) <;> walk_at "sm") | ((with_reducible apply L3.Sm.abs) <;> walk_at "sm") | ((with_reducible apply L3.Sm.emod); (first | omega | decide +kernel); walk_at "sm") | exact L3.Sm.lit _)
local macro_rules | `(tactic| walk_at "smle") => `(tactic| (apply L3.Sm.le; walk_at "sm"; first | omega | decide +kernel))
namespace L3
@[irreducible] def sqN (p f g : Pl) : Int := (p.x * f.y - f.x) * g.y * ((p.x * f.y - f.x) * g.y) + (p.y * g.y - g.x) * f.y * ((p.y * g.y - g.x) * f.y)
@[irreducible] def sq (p f g : Pl) : Pl := frac (sqN p f g) (f.y * g.y * (f.y * g.y))
end L3
namespace L3
@[irreducible] def tw (a b c : Pl) : Int := (b.x - a.x) * (c.y - a.y) - (b.y - a.y) * (c.x - a.x)
def bef (p q : Pl) : Prop := p.x < q.x ∨ (p.x = q.x ∧ p.y < q.y)
instance (p q : Pl) : Decidable (bef p q) := inferInstanceAs (Decidable (_ ∨ _))
def lo (p q : Pl) : Pl := if bef q p then q else p
def hi (p q : Pl) : Pl := if bef p q then q else p
@[irreducible] def apt (p q : Pl) : Int := (q.x - p.x) * (q.x - p.x) + (q.y - p.y) * (q.y - p.y)
@[irreducible] def dep (a b c d : Pl) : Int := apt d a * tw d b c + apt d b * tw d c a + apt d c * tw d a b
@[irreducible] def rg (a b c d : Pl) : Int := (tw a b c).sign * (dep a b c d).sign
end L3
namespace L3
def Spo (a b c d : Pl) : Prop := rg a b c d = 1 ∨ (rg a b c d = 0 ∧ d ≠ a ∧ d ≠ b ∧ d ≠ c ∧ ((bef d a ∧ bef d b ∧ bef d c) ∨ (bef a b ∧ bef a c ∧ bef a d ∧ (tw b c d).sign ≠ (tw b c a).sign) ∨ (bef b a ∧ bef b c ∧ bef b d ∧ (tw c a d).sign ≠ (tw c a b).sign) ∨ (bef c a ∧ bef c b ∧ bef c d ∧ (tw a b d).sign ≠ (tw a b c).sign)))
instance (a b c d : Pl) : Decidable (Spo a b c d) := inferInstanceAs (Decidable (_ ∨ _))
def Unl (p q r s : Pl) : Prop := (0 < tw p q r ∧ tw p q s < 0) ∨ (tw p q r < 0 ∧ 0 < tw p q s)
theorem Unl.ne {p q r s : Pl} (h : Unl p q r s) : tw p q r ≠ 0 ∧ tw p q s ≠ 0 := by unfold Unl at h; omega
end L3
namespace L3
end L3
namespace L3
end L3
namespace L3
open PySem PySem.Spec PyProof.Rows
section
variable {P : Program} {w : World} {A : Around} {E : Value → Shared → Prop} {s : Shared} {κ : KeyKind} {kd : SortKind} {z : Array Keyed} {t : SortSt}
structure Ask (P : Program) (w : World) (A : Around) (s : Shared) (κ : KeyKind) (kd : SortKind) : Prop where
  lt : ∀ (E : Value → Shared → Prop) (x y : Value) (a b : κ.α) (R : Bool → Shared → Prop), κ.keyOf x = some a → κ.keyOf y = some b → R (κ.blt a b) s → wpAny (model P w) A (keyLt' kd x y) R E s
structure Mid (kd : SortKind) (z : Array Keyed) (t : SortSt) : Prop where
  pm : (arrOf t).Perm z
  kd : kindOf t = kd
  ok : failedOf t = none
  no : pendingOf t = #[]
theorem Mid.sz (m : Mid kd z t) : (arrOf t).size = z.size := m.pm.size_eq
theorem Mid.key (m : Mid kd z t) (hk : KeysOf κ z) {i : Nat} (hi : i < z.size) : ∃ x q, (arrOf t)[i]? = some (x, q) ∧ κ.keyOf x = some (KK κ (arrOf t) i) := by
  have hlt : i < (arrOf t).size := m.sz ▸ hi
  have e : (arrOf t)[i]? = some (arrOf t)[i] := getElem?_pos _ i hlt
  obtain ⟨a, ha⟩ := hk (arrOf t)[i] ((Array.perm_iff_toList_perm.mp m.pm).mem_iff.mp (by simp))
  refine ⟨(arrOf t)[i].1, (arrOf t)[i].2, e, ?_⟩
  have ek : KK κ (arrOf t) i = a := by unfold KK; rw [e]; simp only [ha, Option.getD_some]
  rw [ek]; exact ha
structure Cut (κ : KeyKind) (y : Array Keyed) (k l r : Nat) : Prop where
  lr : l ≤ r
  rk : r ≤ k
  lo : ∀ i, i < l → κ.kle (KK κ y i) (KK κ y k)
  hi : ∀ i, r ≤ i → i < k → κ.klt (KK κ y k) (KK κ y i)
structure Fin3 (κ : KeyKind) (z : Array Keyed) (t : SortSt) : Prop where
  pm : (arrOf t).Perm z
  ok : failedOf t = none
  one : pendingOf t = #[(0, z.size, 0)]
  up : SortedToK κ (arrOf t) z.size
theorem Mid.fin (m : Mid kd z t) (up : SortedToK κ (arrOf t) z.size) : Fin3 κ z (setPending t ((pendingOf t).push (0, z.size, 0))) :=
  ⟨m.pm, m.ok, by show (pendingOf t).push (0, z.size, 0) = #[(0, z.size, 0)]; rw [m.no]; rfl, up⟩
end
end L3
namespace L3
open PySem PySem.Spec PyProof.Rows
section
variable {P : Program} {w : World} {A : Around} {E : Value → Shared → Prop} {s : Shared} {κ : KeyKind} {kd : SortKind}
end
end L3
namespace L3
open PySem PySem.Spec PyProof.Rows
def At2 (h : Heap) (v : Value) (p : Pl) : Prop := ∃ (a : Addr) (o : Obj) (t u : Tok) (n : Nat), v = .ref a ∧ h.get? a = some o ∧ o.cls = .type "tuple" ∧ o.data = .seq #[.int p.x t, .int p.y u] n
theorem At2.inj {h : Heap} {v : Value} {p q : Pl} (a : At2 h v p) (b : At2 h v q) : p = q := by
  obtain ⟨a1, o, t, u, n, rfl, h2, h3, h4⟩ := a
  obtain ⟨a2, o', t', u', n', e, k2, k3, k4⟩ := b
  injection e with e
  subst e
  rw [h2] at k2
  injection k2 with k2
  subst k2
  rw [h4] at k4
  injection k4 with k4 _
  cases p; cases q
  simp at k4
  obtain ⟨⟨e1, _⟩, e2, _⟩ := k4
  rw [e1, e2]
section
variable {P : Program} {w : World} {A : Around} {E : Value → Shared → Prop} {s : Shared}
end
end L3
namespace L3
open PySem PySem.Spec PyProof.Rows
section
variable {P : Program} {w : World} {A : Around} {E : Value → Shared → Prop} {s : Shared}
end
end L3
namespace HT
open PySem PyProof.Rows
section
open PySem.SeqAt
open PySem.AutoSeq1 (wpAny_loadPart')
open PySem.MeetsSeq PySem.MeetsSeq2 PySem.MeetsSeq3
end
section
variable {prog : Program} {w : World} {A : Around} {E : Value → Shared → Prop} {s : Shared}
end
end HT
namespace L3
open PySem PySem.Spec PyProof.Rows L2
section
variable {X : Cx} {pos : Pos}
def tIfJ3 (c : TT3) (t : TS3) : TS3 := fun D ρ M => ∃ J : En → Mp → Prop, (c ρ M fun b M1 => if b = true then t { D with nx := fun ρ' M' => Hold (J ρ' M') } ρ M1 else Hold (J ρ M1)) ∧ ∀ ρ M, J ρ M → D.nx ρ M
theorem s_ifJ {c : Expr} {a : List Stmt} {tc : TT3} {t : TS3} (hc : PT3 X c tc) (ha : PSs3 X a t) : PS3 X (.If c a [] pos) (tIfJ3 tc t) := by
  constructor
  intro pins s σ H ρ M D I r ⟨J, q, hJ⟩
  refine thn ((s_if hc ha b_nil).run pins s σ H ρ M { D with nx := fun ρ' M' => Hold (J ρ' M') } I r q) fun f s' z => ?_
  cases f with
  | next => obtain ⟨σ', H', I', ρ', M', fr, r', p⟩ := z; exact ⟨σ', H', I', ρ', M', fr, r', hJ _ _ p.out⟩
  | brk => exact z
  | cont => exact z
  | ret u => exact z
theorem At2.tup {h : Heap} {v : Value} {p : Pl} (a : At2 h v p) : ∃ (l : Addr) (its : Array Value), v = .ref l ∧ IsTup h l its ∧ IntsAre its.toList [p.x, p.y] := by
  obtain ⟨b, o, t, u, n, h1, h2, h3, h4⟩ := a
  exact ⟨b, _, h1, ⟨o, h2, h3, n, h4⟩, .cons _ _ (.cons _ _ .nil)⟩
def PlsAt (h : Heap) : List Value → List Pl → Prop := Paired (At2 h)
theorem PlsAt.get {h : Heap} : ∀ {us : List Value} {ps : List Pl} {i : Nat} {u : Value}, PlsAt h us ps → us[i]? = some u → ∃ p, ps[i]? = some p ∧ At2 h u p
  | _, _, i, u, .nil, e => by simp at e
  | _, _, i, u, .cons a r, e => by
    cases i with
    | zero => simp at e; subst e; exact ⟨_, rfl, a⟩
    | succ i => exact PlsAt.get (i := i) r (by simpa using e)
theorem Vals.len {xs : List V} {us : List Value} (r : Vals xs us) : us.length = xs.length := (Vals.length r).symm
theorem PlsAt.mem {h : Heap} : ∀ {us : List Value} {ps : List Pl} {v : Value}, PlsAt h us ps → v ∈ us → ∃ p, At2 h v p
  | _, _, v, .nil, m => by cases m
  | _, _, v, .cons a r, m => by
    rcases List.mem_cons.mp m with rfl | m
    · exact ⟨_, a⟩
    · exact PlsAt.mem r m
end
end L3
local macro_rules | `(tactic| walk_at "sm") => `(tactic| first | assumption | exact L3.Sm.sign _ | exact L3.Sm.zero | exact L3.Sm.one | exact L3.Sm.two | ((with_reducible apply L3.Sm.mul) <;> walk_at "sm") | ((with_reducible apply L3.Sm.sub) <;> walk_at "sm") | ((with_reducible apply L3.Sm.add) <;> walk_at "sm") | ((with_reducible apply L3.Sm.neg) <;> walk_at "sm") | ((with_reducible apply L3.Sm.abs) <;> walk_at "sm") | ((with_reducible apply L3.Sm.emod); (first | omega | decide +kernel); walk_at "sm") | exact L3.Sm.lit _)
local macro_rules | `(tactic| walk_at "mulok") => `(tactic| (apply L3.MulOk.of; walk_at "sm"; walk_at "sm"; first | omega | decide +kernel))
local macro_rules | `(tactic| walk_at "rd1") => `(tactic| first | refine ⟨_, rfl, ?_⟩ | refine ⟨_, _, rfl, rfl, ?_⟩ | refine ⟨_, _, _, Or.inl rfl, rfl, rfl, ?_⟩ | (refine ⟨?side, ?_⟩; (case side => first | walk_at "mulok" | (simp only [List.length_cons, List.length_nil]; decide) | (show (0 : Int) < _; first | omega | (dsimp only; omega) | decide +kernel) | (show (0 : Int) ≤ _; first | omega | (dsimp only; omega)) | exact ⟨by decide +kernel, by decide +kernel, by decide +kernel⟩ | exact ⟨by decide +kernel, _, L3.Sm.lit _, by decide +kernel⟩ | (left; walk_at "mulok") | exact Or.inr (Or.inr ⟨by decide, by decide⟩) | decide)) | refine ⟨rfl, ?_⟩ | refine ⟨trivial, ?_⟩ | refine ⟨_, Or.inl rfl, rfl, ?_⟩ | refine ⟨_, _, rfl, Or.inl rfl, ?_⟩ | refine ⟨_, _, _, _, rfl, L3.Ty3.int _, L3.kit_same, ?_⟩ | refine ⟨_, _, _, _, rfl, L3.Ty3.tup _, L3.kit_same, ?_⟩ | refine ⟨_, _, _, _, rfl, L3.Ty3.bl _, L3.kit_same, ?_⟩ | refine ⟨_, _, rfl, ?_⟩ | refine ⟨_, _, _, rfl, ?_⟩ | refine ⟨_, _, _, _, rfl, ?_⟩)
local macro_rules | `(tactic| walk_at "rd") => `(tactic| repeat walk_at "rd1")
local macro_rules | `(tactic| walk_at "smle") => `(tactic| (apply L3.Sm.le; walk_at "sm"; first | omega | decide +kernel))
local macro_rules | `(tactic| walk_at "om") => `(tactic| first | omega | (dsimp only; omega))
namespace L3
open PySem L2
instance (p q r s : Pl) : Decidable (Unl p q r s) := inferInstanceAs (Decidable (_ ∨ _))
end L3
namespace L3
open PySem PySem.Spec PyProof.Rows L2
def closeL (cells : List (Str × Addr)) (names : List (Str × NameKind)) (cs : List (Str × Addr)) : List (Str × Addr) :=
  names.foldl (fun cs y => if (y.2 == NameKind.free) = true then (y.1, (cells.lookup y.1).getD 0) :: cs else cs) cs
theorem forIn_fold {α β : Type} {f : α → β → Sem (ForInStep β)} {g : β → α → β} : ∀ {l : List α} {b : β}, (∀ x ∈ l, ∀ b, f x b = pure (.yield (g b x))) → forIn l b f = (pure (l.foldl g b) : Sem β)
  | [], b, _ => rfl
  | x :: l, b, h => by
    rw [List.forIn_cons, h x (List.mem_cons_self ..), pure_bind]
    exact forIn_fold fun y hy => h y (List.mem_cons_of_mem _ hy)
theorem closure_is {sc : Scope} {env : Env} (h : ∀ y ∈ sc.names, y.2 = .free → ∃ c, env.cells.lookup y.1 = some c) : closureFor sc env = pure (closeL env.cells sc.names []) := by
  unfold closureFor closeL
  dsimp only
  rw [forIn_fold (g := fun cs y => if (y.2 == NameKind.free) = true then (y.1, (env.cells.lookup y.1).getD 0) :: cs else cs)]
  · rfl
  · rintro ⟨n, k⟩ hy b
    by_cases hk : k = .free
    · subst hk
      obtain ⟨c, hc⟩ := h _ hy rfl
      have hc : env.cells.lookup n = some c := hc
      simp [cellOf, hc]
    · have hb : (k == NameKind.free) = false := by simpa using hk
      simp [hb]
theorem closeL_from {cells : List (Str × Addr)} {x : Str} {c : Addr} : ∀ {names : List (Str × NameKind)} {cs : List (Str × Addr)}, (∀ y ∈ names, y.2 = .free → ∃ c, cells.lookup y.1 = some c) → (∀ x c, cs.lookup x = some c → cells.lookup x = some c) →
    (closeL cells names cs).lookup x = some c → cells.lookup x = some c
  | [], cs, _, h, e => h x c e
  | (n, k) :: r, cs, hf, h, e => by
    refine closeL_from (names := r) (cs := if (k == NameKind.free) = true then (n, (cells.lookup n).getD 0) :: cs else cs) (fun y hy => hf y (List.mem_cons_of_mem _ hy)) (fun x c q => ?_) e
    split at q
    · rename_i hk
      rw [List.lookup_cons] at q
      split at q
      · rename_i hx
        have hx := eq_of_beq hx
        subst hx
        obtain ⟨c', hc⟩ := hf (x, k) (List.mem_cons_self ..) (eq_of_beq hk)
        have hc : cells.lookup x = some c' := hc
        rw [hc] at q
        rw [hc]; exact q
      · exact h x c q
    · exact h x c q
theorem closeL_more {cells : List (Str × Addr)} {x : Str} : ∀ {names : List (Str × NameKind)} {cs : List (Str × Addr)}, ((cs.lookup x).isSome = true ∨ (x, NameKind.free) ∈ names) → ((closeL cells names cs).lookup x).isSome = true
  | [], cs, h => by
    rcases h with h | h
    · exact h
    · cases h
  | (n, k) :: r, cs, h => by
    refine closeL_more (names := r) (cs := if (k == NameKind.free) = true then (n, (cells.lookup n).getD 0) :: cs else cs) ?_
    rcases h with h | h
    · left
      split
      · rw [List.lookup_cons]
        split
        · rfl
        · exact h
      · exact h
    · rcases List.mem_cons.mp h with e | h
      · left
        cases e
        simp [List.lookup_cons]
      · exact .inr h
theorem mem_of_lookup {β : Type} {x : Str} {b : β} : ∀ {l : List (Str × β)}, l.lookup x = some b → (x, b) ∈ l
  | [], h => by cases h
  | (n, c) :: r, h => by
    rw [List.lookup_cons] at h
    split at h
    · rename_i hx
      cases h
      have := eq_of_beq hx
      subst this
      exact List.mem_cons_self ..
    · exact List.mem_cons_of_mem _ (mem_of_lookup h)
def compChk (outer : Scope) (N : List Str) (sc : Scope) (x : Str) (ys : List Str) (fs : List Nat) : Bool :=
  (sc.kind == .function) && (outer.kind == .function) && sc.names.all (fun y => !(y.2 == .cell) && (!(y.2 == .local) || sc.names.lookup y.1 == some .local) && (!(y.2 == .free) || outer.names.lookup y.1 == some .cell)) && (sc.names.lookup x == some .local) &&
    decide (ys.length = fs.length) && (ys.zip fs).all (fun p => N[p.2]? == some p.1 && sc.names.lookup p.1 == some .free) && decide (x :: ys).Nodup
structure CompOk (outer : Scope) (N : List Str) (sc : Scope) (x : Str) (ys : List Str) (fs : List Nat) : Prop where
  kind : sc.kind = .function
  okind : outer.kind = .function
  nocell : ∀ y ∈ sc.names, y.2 ≠ .cell
  names : ∀ y ∈ sc.names, y.2 = .local → sc.names.lookup y.1 = some .local
  fre : ∀ y ∈ sc.names, y.2 = .free → outer.names.lookup y.1 = some .cell
  loc : sc.names.lookup x = some .local
  len : ys.length = fs.length
  at' : ∀ (k : Nat) y, ys[k]? = some y → ∃ i, fs[k]? = some i ∧ N[i]? = some y ∧ sc.names.lookup y = some .free
  nd : (x :: ys).Nodup
theorem CompOk.of {outer : Scope} {N : List Str} {sc : Scope} {x : Str} {ys : List Str} {fs : List Nat} (h : compChk outer N sc x ys fs = true) : CompOk outer N sc x ys fs := by
  unfold compChk at h
  simp only [Bool.and_eq_true, List.all_eq_true, decide_eq_true_eq] at h
  obtain ⟨⟨⟨⟨⟨⟨h1, h1'⟩, h2⟩, h3⟩, h4⟩, h5⟩, h6⟩ := h
  refine ⟨eq_of_beq h1, eq_of_beq h1', fun y hy z => ?_, fun y hy z => ?_, fun y hy z => ?_, eq_of_beq h3, h4, fun k y e => ?_, h6⟩
  · have := (h2 y hy).1.1
    rw [z] at this
    simp at this
  · have := (h2 y hy).1.2
    rw [z] at this
    simpa using this
  · have := (h2 y hy).2
    rw [z] at this
    simpa using this
  · have hk : k < fs.length := by rw [← h4]; exact (List.getElem?_eq_some_iff.mp e).1
    have ez : (ys.zip fs)[k]? = some (y, fs[k]) := by
      rw [List.getElem?_zip_eq_some]
      exact ⟨e, List.getElem?_eq_getElem hk⟩
    obtain ⟨q1, q2⟩ := h5 _ (List.mem_of_getElem? ez)
    exact ⟨fs[k], List.getElem?_eq_getElem hk, eq_of_beq q1, eq_of_beq q2⟩
theorem relabel_free {env : Env} {y : Str} (hk : env.scope.kind = .function) (hc : env.scope.names.lookup y = some .cell) : ∀ {names : List (Str × NameKind)}, names.lookup y = some .free →
    (names.map fun (n, k) => if (k == NameKind.free && env.scope.kind == .function && env.kindOf n == some .cell) then (n, NameKind.cell) else (n, k)).lookup y = some .cell
  | [], h => by cases h
  | (n, k) :: r, h => by
    rw [List.lookup_cons] at h
    split at h
    · rename_i hx
      cases h
      have := eq_of_beq hx
      subst this
      have hc : env.kindOf y = some .cell := hc
      simp [hk, hc, List.lookup_cons]
    · rename_i hx
      have ih := relabel_free hk hc h
      simp only [List.map_cons]
      split
      · rw [List.lookup_cons, hx]; exact ih
      · rw [List.lookup_cons, hx]; exact ih
abbrev blk (X : Cx) (sc : Scope) (x : Str) (ys : List Str) (cl : List (Str × Addr)) (C : Addr) (s0 : Shared) (H0 : Hp) (ex : List Addr) : Cx :=
  { X with N := x :: ys, s₀ := s0, H₀ := H0, env := compEnvC sc cl C X.env, outer := X.stack, ex := ex, fn := fun _ => false, pn := [], xe := fun _ _ => False }
structure PL3 (X : Cx) (ifs : List Expr) (t : TT3) : Prop where
  run : ∀ (pins : List (Addr × Obj)) (s : Shared) (σ : St) (H : Hp) (ρ : En) (M : Mp) (Q : Bool → Mp → Prop), Inv X pins σ H s → Rep X.K H σ ρ M → t ρ M Q →
    wpAny (model X.prog X.w) X.A (forIn ifs true fun c r => if r = true then do { let ok ← isTrue c X.env (eval c X.env); pure (ForInStep.yield ok) } else pure (ForInStep.yield r)) (TP X pins σ (PostB X.K M H Q)) X.xe s
def tYes : TT3 := fun _ M Q => Q true M
theorem l_nil {X : Cx} : PL3 X [] tYes := ⟨fun pins s σ H ρ M Q I r q => wpAny_tests_nil ⟨H, I, M, .refl _ _, r.mem, q⟩⟩
def runLC (gd : Mp → Prop) (tt : TT3) (te : TE3) (fr : En) (Q : List D → Mp → Prop) : List D → List D → Mp → Prop
  | [], acc, M => gd M ∧ Q acc M
  | d :: ds, acc, M => gd M ∧ tt (some d :: fr) M fun b M1 => if b = true then te (some d :: fr) M1 fun y M2 => runLC gd tt te fr Q ds (acc ++ [y]) M2 else runLC gd tt te fr Q ds acc M1
def frOf (fs : List Nat) (ρ : En) : En := fs.map fun i => (ρ[i]?).join
section
variable {X : Cx} {sc : Scope} {x : Str} {ys : List Str} {fs : List Nat}
theorem frOf_get {fs : List Nat} {ρ : En} {k : Nat} {d : D} (h : (frOf fs ρ)[k]? = some (some d)) : ∃ i, fs[k]? = some i ∧ ρ[i]? = some (some d) := by
  unfold frOf at h
  rw [List.getElem?_map] at h
  cases e : fs[k]? with
  | none => rw [e] at h; cases h
  | some i =>
    rw [e] at h
    refine ⟨i, rfl, ?_⟩
    have h : (ρ[i]?).join = some d := Option.some.inj h
    cases q : ρ[i]? with
    | none => rw [q] at h; cases h
    | some o => rw [q] at h; rw [show o = some d from h]
theorem blk_start {pins : List (Addr × Obj)} {σ : St} {H : Hp} {s s' : Shared} {C : Addr} {fp : List Addr} {cl : List (Str × Addr)} {ρ : En} {M : Mp} (ck : CompOk X.env.scope X.N sc x ys fs) (I : Inv X pins σ H s) (r : Rep X.K H σ ρ M) (hcl : cl = closeL X.env.cells sc.names [])
    (hC : s.heap.objs.size ≤ C) (old : ∀ b o, s.heap.get? b = some o → s'.heap.get? b = some o) (ns : ∃ m, s'.heap.Ns C m) (hos : s'.os = s.os) (hg : s'.gens = s.gens) (hf : ∀ b ∈ fp, FpOk X pins H b) (hfp : ∀ b ∈ fp, b < s.heap.objs.size) :
    ∃ σ', Inv (blk X sc x ys cl C s H fp) [] σ' H s' ∧ Rep X.K H σ' (none :: frOf fs ρ) M := by
  have hcells : ∀ y ∈ sc.names, y.2 = .free → ∃ c, X.env.cells.lookup y.1 = some c := fun y hy hk => I.ok.has y.1 (.inl (ck.fre y hy hk))
  have cf : ∀ {y c}, cl.lookup y = some c → X.env.cells.lookup y = some c := fun {y c} e => by rw [hcl] at e; exact closeL_from hcells (fun _ _ z => by cases z) e
  have ch : ∀ y, sc.names.lookup y = some .free → ∃ c, cl.lookup y = some c := fun y e => by rw [hcl]; exact Option.isSome_iff_exists.mp (closeL_more (.inr (mem_of_lookup e)))
  have rk : ∀ y k, (relabel sc X.env).names.lookup y = some k → (k = .cell ∨ k = .free) → ∃ c, cl.lookup y = some c := by
    intro y k e hk
    have : ∃ k', sc.names.lookup y = some k' ∧ (k' = k ∨ k' = .free) := by
      clear ck hcells cf ch
      revert e
      show (sc.names.map _).lookup y = some k → _
      generalize sc.names = names
      intro e
      induction names with
      | nil => cases e
      | cons p r ih =>
        obtain ⟨n, kn⟩ := p
        simp only [List.map_cons] at e
        rw [List.lookup_cons]
        split
        · rename_i hx
          split at e
          · rename_i hc
            refine ⟨kn, rfl, .inr ?_⟩
            simp only [Bool.and_eq_true] at hc
            exact eq_of_beq hc.1.1
          · rw [List.lookup_cons, hx] at e
            exact ⟨kn, rfl, .inl (Option.some.inj e)⟩
        · rename_i hx
          split at e <;> (rw [List.lookup_cons, hx] at e; exact ih e)
    obtain ⟨k', e', hk'⟩ := this
    rcases hk' with rfl | rfl
    · rcases hk with rfl | rfl
      · exact absurd rfl (ck.nocell _ (mem_of_lookup e'))
      · exact ch y e'
    · exact ch y e'
  have lfp : ∀ b ∈ fp, b ≠ C := fun b hb z => absurd (Nat.lt_of_lt_of_le (hfp b hb) hC) (by rw [z]; exact Nat.lt_irrefl _)
  have ok : (blk X sc x ys cl C s H fp).Ok := {
    mod := I.ok.mod
    kind := ck.kind
    glob := I.ok.glob
    blt := I.ok.blt
    above := hC
    inj := fun a b c e1 e2 => I.ok.inj a b c (cf e1) (cf e2)
    has := fun y hy => by
      rcases hy with hy | hy
      · exact rk y _ hy (.inl rfl)
      · exact rk y _ hy (.inr rfl)
    cab := fun _ _ z => by cases z
    hd := I.ok.hd
    frames := I.ok.frames
    stk := .inl rfl
    exf := fun b hb => ⟨lfp b hb, fun y c e => (hf b hb).2.2.2.2.1 y c (cf e)⟩
    bs := I.bs
    bsz := Nat.le_trans I.ok.bsz I.sz
    noex := fun b o e hb => by
      rcases (hf b hb).2.2.2.1 with z | z
      · exact I.ok.noex b o e z
      · exact absurd (Nat.lt_of_lt_of_le (Heap.lt_size (I.ok.bs b o e).1) z) (Nat.lt_irrefl _)
    exfs := fun b hb z => by
      rcases List.mem_cons.mp (I.stkSub b z) with e | e
      · exact (hf b hb).2.1 e
      · exact (hf b hb).2.2.1 e
    funs := I.stack
    frf := I.stkFree }
  have fC : H C = none := I.hok.fresh hC
  obtain ⟨m, hm⟩ := ns
  refine ⟨none :: fs.map (fun i => (σ[i]?).join), ⟨ok, hos, by rw [hg]; exact I.bare, Un.kept old, ⟨m, hm, fun i y v e1 e2 e3 => ?_⟩, fun y c e => ?_, fC, fun y c e => I.freeC y c (cf e), fun p hp => (by cases hp), I.hok.kept old, by simp [ck.len]⟩, ⟨fun i d e => ?_, ?_, r.mem⟩⟩
  · cases i with
    | zero => cases e2
    | succ i =>
      have e1 : ys[i]? = some y := e1
      obtain ⟨j, f1, f2, f3⟩ := ck.at' i y e1
      have e2 : (fs.map fun i => (σ[i]?).join)[i]? = some (some v) := e2
      rw [List.getElem?_map, f1] at e2
      have e2 : (σ[j]?).join = some v := Option.some.inj e2
      have e4 : σ[j]? = some (some v) := by
        cases q : σ[j]? with
        | none => rw [q] at e2; cases e2
        | some o => rw [q] at e2; rw [show o = some v from e2]
      have hc : X.env.scope.names.lookup y = some .cell := ck.fre (y, .free) (mem_of_lookup f3) rfl
      obtain ⟨m0, _, hl⟩ := I.loc
      obtain ⟨u, ru, lk⟩ := hl j y v f2 e4 (.inr (.inl hc))
      refine ⟨u, ru, ?_⟩
      rcases lk with ⟨k1, _⟩ | ⟨_, c, e5, e6⟩
      · have k1 : X.env.scope.names.lookup y = some .local := k1
        rw [hc] at k1; cases k1
      · obtain ⟨c', e7⟩ := ch y f3
        have := cf e7
        rw [e5] at this
        cases this
        refine .inr ⟨.inl (relabel_free I.ok.kind hc f3), c, e7, ?_⟩
        obtain ⟨o, ho, hd⟩ := e6
        exact ⟨o, old _ _ ho, hd⟩
  · obtain ⟨v, o, ho, hd⟩ := I.cell y c (cf e)
    exact ⟨v, o, old _ _ ho, hd⟩
  · cases i with
    | zero => cases e
    | succ i =>
      obtain ⟨j, f1, f2⟩ := frOf_get (show (frOf fs ρ)[i]? = some (some d) from e)
      obtain ⟨v, g1, g2⟩ := r.env j d f2
      refine ⟨v, ?_, g2⟩
      show (fs.map fun i => (σ[i]?).join)[i]? = some (some v)
      rw [List.getElem?_map, f1]
      show some ((σ[j]?).join) = _
      rw [g1]; rfl
  · simp [frOf]
end
end L3
namespace L3
open PySem PySem.Spec PyProof.Rows L2
section
variable {X : Cx} {sc : Scope} {x : Str} {ys : List Str} {fs : List Nat} {elt iter : Expr} {px pos : Pos} {ifs : List Expr} {tt : TT3} {te : TE3}
theorem thnF {α : Type} {t : Sem α} {Q Q' : α → Shared → Prop} {M : Model} {A : Around} {E : Value → Shared → Prop} {s : Shared} (h : wpAny M A t Q (fun _ _ => False) s) (hQ : ∀ a s, Q a s → Q' a s) : wpAny M A t Q' E s := wpAny_mono h hQ fun _ _ z => z.elim
theorem compTurn_is (elt target iter : Expr) (ifs : List Expr) (sc : Scope) (pos : Pos) (it acc : Value) (env : Env) : compTurn (.ListComp elt [⟨target, iter, ifs, 0⟩] sc pos) 0 it acc env = (standAt iter.pos >>= fun _ => pyNext it >>= fun r => match r with
    | none => pure (.done .next)
    | some v => letOwnedTupleGo target it v >>= fun _ => assign target env v >>= fun _ => (forIn ifs true fun c r => if r = true then do { let ok ← isTrue c env (eval c env); pure (ForInStep.yield ok) } else pure (ForInStep.yield r)) >>= fun ok =>
      if ok = true then (eval elt env >>= fun y => call (.builtin "list.append") [acc, y] >>= fun _ => again (.compLoop (.ListComp elt [⟨target, iter, ifs, 0⟩] sc pos) 0 it acc env)) else again (.compLoop (.ListComp elt [⟨target, iter, ifs, 0⟩] sc pos) 0 it acc env)) := by
  rw [compTurn_list]
  congr 1; funext _; congr 1; funext r
  cases r with
  | none => rfl
  | some v =>
    dsimp only
    congr 1; funext _; congr 1; funext _; congr 1; funext ok
    cases ok with
    | false => rfl
    | true => simp only [if_true, bind_assoc, pure_bind]
structure LcSt (X X' : Cx) (Dl : Addr) (fp : List Addr) (tn : Nat → Heap → Prop) (M0 : Mp) (H0 : Hp) (fr : En) (i : Nat) (s : Shared) (acc : List D) (M : Mp) : Prop where
  ex : ∃ σ H y ws, Inv X' [] σ H s ∧ tn i s.heap ∧ (∀ b ∈ fp, H b = none) ∧ Rep X.K H σ (y :: fr) M ∧ Fr M0 H0 M H ∧ H Dl = some (.lst ws) ∧ M Dl = none ∧ Dats X.K H acc ws ∧ acc.length ≤ i
theorem lc_core (hc : X.calm = true) (ck : CompOk X.env.scope X.N sc x ys fs) (ht : ∀ cl C s0 H0 ex, PL3 (blk X sc x ys cl C s0 H0 ex) ifs tt) (he : ∀ cl C s0 H0 ex, PE3 (blk X sc x ys cl C s0 H0 ex) elt te)
    {pins : List (Addr × Obj)} {σ : St} {H : Hp} {s : Shared} {ρ : En} {M : Mp} {it : Addr} {fp : List Addr} {tn : Nat → Heap → Prop} {J : It} {inv : Hp → Prop} {ds : List D} {gd : Mp → Prop} {Q : DK} {E : Value → Shared → Prop} {Ma : Mp} {Ha : Hp} {use : Option (Value → Sem Unit)} {Qs : Value → Shared → Prop} (fa : Fr Ma Ha M H)
    (fin : ∀ (C Dl : Addr) (s6 : Shared) (H5 : Hp), Inv X pins σ H5 s6 → (∃ m, s6.heap.Ns C m) → FpOk X pins H5 C → Post X.K Ma Ha Q (.ref Dl) H5 → compPost (model X.prog X.w) X.A E use Qs (.ref Dl) C (.ok .next) s6)
    (I : Inv X pins σ H s) (r : Rep X.K H σ ρ M) (T : Turn X.prog X.w X.K (.Name x px) J fp it tn) (st : tn 0 s.heap) (hf : ∀ b ∈ fp, FpOk X pins H b) (hJ : ItIs X.K J inv ds) (hz : ds.length < sizeLine)
    (stay : ∀ M1 H1, Fr M H M1 H1 → RepM X.K H1 M1 → gd M1 → inv H1) (q : runLC gd tt te (frOf fs ρ) (fun zs M2 => ∀ p, M2 p = none → Q (.ref p) (updM M2 p (.lst zs))) ds [] M) :
    wpAny (model X.prog X.w) X.A (newList []) (fun acc s3 => wpAny (model X.prog X.w) X.A (newFunctionEnv sc X.env.globals (closeL X.env.cells sc.names []) [] X.env.qual none .none (some X.env)) (fun cenv s4 =>
      codeAny (model X.prog X.w) X.A (.compStart (.ListComp elt [⟨.Name x px, iter, ifs, 0⟩] sc pos) 0 (.ref it) acc { cenv with scope := relabel sc X.env }) (compPost (model X.prog X.w) X.A E use Qs acc cenv.locals) s4) E s3) E s := by
  have hfp : ∀ b ∈ fp, b < s.heap.objs.size := fun b hb => by
    obtain ⟨o, e, _⟩ := T.obj 0 _ st b hb
    exact Heap.lt_size e
  refine wpAny_newList (hsz := Nat.zero_le _) ?_
  have fD : H s.heap.objs.size = none := I.hok.fresh (Nat.le_refl _)
  have k1 : ∀ b o, s.heap.get? b = some o → (s.heap.push { cls := .type "list", data := .seq ([] : List Value).toArray }).get? b = some o := fun b o e => Heap.get?_push_of_some _ e
  have z3 : (s.heap.push { cls := .type "list", data := .seq ([] : List Value).toArray }).objs.size = s.heap.objs.size + 1 := Heap.size_push ..
  have I3 : Inv X pins σ (upd H s.heap.objs.size (.lst [])) { s with heap := s.heap.push { cls := .type "list", data := .seq ([] : List Value).toArray } } :=
    I.laid (t' := s.toks) k1 (Nat.le_refl _) ⟨Nat.zero_le _, [], 0, .nil, Heap.get?_push_size _ rfl⟩
  refine wpAny_newFunctionEnv ck.nocell (fun y hy => by cases hy) (fun h1 ns1 sb1 => ?_) ck.kind
  generalize hs3 : ({ s with heap := s.heap.push { cls := .type "list", data := .seq ([] : List Value).toArray } } : Shared) = s3 at I3 ns1 sb1 ⊢
  have zs3 : s3.heap.objs.size = s.heap.objs.size + 1 := by rw [← hs3]; exact z3
  have old : ∀ b o, s3.heap.get? b = some o → h1.get? b = some o := fun b o e => sb1.extBut b o (Nat.ne_of_lt (Heap.lt_size e)) (Heap.get?_push_of_some _ e)
  have hf3 : ∀ b ∈ fp, FpOk X pins (upd H s.heap.objs.size (.lst [])) b := fun b hb => ⟨by rw [upd_ne (Nat.ne_of_lt (hfp b hb))]; exact (hf b hb).1, (hf b hb).2⟩
  have frN : Fr M H M (upd H s.heap.objs.size (.lst [])) := Fr.new fD fun _ _ => rfl
  have r3 : Rep X.K (upd H s.heap.objs.size (.lst [])) σ ρ M := r.go frN (r.mem.new fD)
  obtain ⟨σ', I4, r4⟩ := blk_start (s := s3) (s' := { s3 with heap := h1, toks := s3.toks + ([] : List (Str × Value)).length }) (C := s3.heap.objs.size) (fp := fp) ck I3 r3 rfl (Nat.le_refl _) old ⟨_, ns1⟩ rfl rfl hf3 (fun b hb => by rw [zs3]; exact Nat.lt_succ_of_lt (hfp b hb))
  have MD : M s.heap.objs.size = none := r.mem.free fD
  have st4 : tn 0 h1 := T.keep 0 _ _ st fun b hb o e => old b o (by rw [← hs3]; exact k1 b o e)
  have fpX : ∀ {H' : Hp}, (∀ b ∈ fp, H' b = none) → ∀ b ∈ fp, FpOk (blk X sc x ys (closeL X.env.cells sc.names []) s3.heap.objs.size s3 (upd H s.heap.objs.size (.lst [])) fp) [] H' b := fun {H'} hn b hb =>
    ⟨hn b hb, (I4.ok.exf b hb).1, I4.ok.exfs b hb, .inl hb, fun y c e z => (I4.ok.exf b hb).2 y c e z, fun p hp => by cases hp⟩
  have loop : ∀ s4 : Shared, s4 = { s3 with heap := h1, toks := s3.toks + ([] : List (Str × Value)).length } →
      codeAny (model X.prog X.w) X.A (.compLoop (.ListComp elt [⟨.Name x px, iter, ifs, 0⟩] sc pos) 0 (.ref it) (.ref s.heap.objs.size) ((blk X sc x ys (closeL X.env.cells sc.names []) s3.heap.objs.size s3 (upd H s.heap.objs.size (.lst [])) fp)).env) (compPost (model X.prog X.w) X.A E use Qs (.ref s.heap.objs.size) s3.heap.objs.size) s4 := by
    rintro s4 rfl
    refine codeAny_loop rfl (I := fun n s' => ∃ i acc M', n = ds.length - i ∧ i ≤ ds.length ∧ LcSt X (blk X sc x ys (closeL X.env.cells sc.names []) s3.heap.objs.size s3 (upd H s.heap.objs.size (.lst [])) fp) s.heap.objs.size fp tn M H (frOf fs ρ) i s' acc M' ∧ runLC gd tt te (frOf fs ρ) (fun zs M2 => ∀ p, M2 p = none → Q (.ref p) (updM M2 p (.lst zs))) (ds.drop i) acc M')
      (fun n s5 hI => ?_) ds.length ⟨0, [], M, rfl, Nat.zero_le _, ⟨σ', _, none, [], I4, st4, fun b hb => (hf3 b hb).1, r4, frN, upd_same, MD, dats_nil.mpr rfl, Nat.le_refl _⟩, q⟩
    obtain ⟨i, acc, M5, rfl, hi, ⟨σ5, H5, y5, ws, I5, st5, f5, r5, fr5, hD5, hM5, da5, la5⟩, q5⟩ := hI
    show wpAny (model X.prog X.w) X.A ((compTurn (.ListComp elt [⟨.Name x px, iter, ifs, 0⟩] sc pos) 0 (.ref it) (.ref s.heap.objs.size) ((blk X sc x ys (closeL X.env.cells sc.names []) s3.heap.objs.size s3 (upd H s.heap.objs.size (.lst [])) fp)).env).onRaise (fun z => do { noteFrame z ((blk X sc x ys (closeL X.env.cells sc.names []) s3.heap.objs.size s3 (upd H s.heap.objs.size (.lst [])) fp)).env; theTreesLotGoes z })) _ _ s5
    refine wpAny_noted ?_
    rw [compTurn_is]
    refine wpAny_bind (wpAny_standAt ?_)
    by_cases hlt : i < ds.length
    · have hdr : ds.drop i = ds[i] :: ds.drop (i + 1) := List.drop_eq_getElem_cons hlt
      rw [hdr] at q5
      obtain ⟨hg, q5⟩ := q5
      have hinv := stay M5 H5 fr5 r5.mem hg
      refine wpAny_bind (thnF (T.item (blk X sc x ys (closeL X.env.cells sc.names []) s3.heap.objs.size s3 (upd H s.heap.objs.size (.lst [])) fp) rfl rfl rfl hc i [] s5 σ5 H5 (fun _ _ => False) I5 (fpX f5) st5 (hJ.go i H5 hlt hinv)) fun r6 s6 ⟨u, e6, h6⟩ => ?_)
      subst e6
      refine wpAny_bind (thnF h6 fun _ s7 ⟨v, H7, I7, rv, yl, st7, f7⟩ => ?_)
      obtain ⟨e7, d, hd1, hd2⟩ := hJ.yld i H5 v H7 hlt hinv yl
      subst e7
      have ed : d = ds[i] := Option.some.inj (hd1.symm.trans (List.getElem?_eq_getElem hlt))
      subst ed
      have I7' := I7.pinned (fpX f7) (T.obj _ _ st7)
      have lx : (relabel sc X.env).names.lookup x = some .local := lookup_relabel_local ck.loc
      refine wpAny_bind (thnF ((g_name (X := (blk X sc x ys (closeL X.env.cells sc.names []) s3.heap.objs.size s3 (upd H s.heap.objs.size (.lst [])) fp)) (i := 0) (x := x) (pos := px) ck.nd rfl (.inl lx) (.inr lx)).run _ s7 σ5 H7 (y5 :: frOf fs ρ) M5 v ds[i] u (fun ρ' M' => ρ' = some ds[i] :: frOf fs ρ ∧ M' = M5) I7' r5 rv hd2 ⟨rfl, rfl⟩) fun _ s8 ⟨σ8, H8, I8, ρ8, M8, fr8, r8, e8, e8'⟩ => ?_)
      subst e8 e8'
      obtain ⟨hD8, hM8⟩ := fr8 _ _ hM5 hD5
      refine wpAny_bind (thnF ((ht _ _ _ _ _).run _ s8 σ8 H8 _ M8 _ I8 r8 q5) fun b s9 ⟨H9, I9, M9, fr9, rm9, q9⟩ => ?_)
      obtain ⟨hD9, hM9⟩ := fr9 _ _ hM8 hD8
      have r9 := r8.go fr9 rm9
      have fr59 := (fr5.trans fr8).trans fr9
      have da9 : Dats X.K H9 acc ws := Dats.mono ((fr8.trans fr9).ext r5.mem) _ _ da5
      have next : ∀ {H' : Hp} {s' : Shared}, Inv (blk X sc x ys (closeL X.env.cells sc.names []) s3.heap.objs.size s3 (upd H s.heap.objs.size (.lst [])) fp) ([] ++ pinsAt fp s7.heap) σ8 H' s' → (tn (i + 1) s'.heap ∧ ∀ b ∈ fp, H' b = none) := fun {H' s'} I' => by
        have pin : ∀ b ∈ fp, ∀ o, s7.heap.get? b = some o → s'.heap.get? b = some o ∧ H' b = none := fun b hb o e => by
          have := I'.pin (b, o) (List.mem_append_right _ (List.mem_append_right _ (mem_pinsAt hb e)))
          exact ⟨this.1, this.2.1⟩
        refine ⟨T.keep _ _ _ st7 fun b hb o e => (pin b hb o e).1, fun b hb => ?_⟩
        obtain ⟨o, e, _⟩ := T.obj _ _ st7 b hb
        exact (pin b hb o e).2
      cases b with
      | false =>
        rw [if_neg Bool.false_ne_true]
        obtain ⟨n1, n2⟩ := next I9
        exact wpAny_pure ⟨rfl, ds.length - (i + 1), by omega, i + 1, acc, M9, rfl, hlt, ⟨σ8, H9, _, ws, I9.unpinned, n1, n2, r9, fr59, hD9, hM9, da9, by omega⟩, q9⟩
      | true =>
        rw [if_pos rfl]
        refine wpAny_bind (thnF ((he _ _ _ _ _).run _ s9 σ8 H9 _ M9 _ I9 r9 q9) fun u10 s10 ⟨v10, H10, I10, rv10, dy, M10, fr10, dd10, rm10, q10⟩ => ?_)
        obtain ⟨hD10, hM10⟩ := fr10 _ _ hM9 hD9
        have r10 := r9.go fr10 rm10
        have da10 : Dats X.K H10 acc ws := Dats.mono (fr10.ext r9.mem) _ _ da9
        have lw : ws.length < sizeLine := by rw [← da10.length]; omega
        refine wpAny_bind (thnF (mt_append (X := (blk X sc x ys (closeL X.env.cells sc.names []) s3.heap.objs.size s3 (upd H s.heap.objs.size (.lst [])) fp)) _ s10 σ8 H10 (.ref s.heap.objs.size) [v10] (.ref s.heap.objs.size) [u10] (fun _ H' => H' = upd H10 s.heap.objs.size (.lst (ws ++ [v10]))) I10 rfl (.cons rv10 .nil) ⟨_, ws, v10, rfl, rfl, hD10, lw, rfl⟩) fun _ s11 ⟨_, H11, I11, _, e11⟩ => ?_)
        subst e11
        have ex : Ext H10 (upd H10 s.heap.objs.size (.lst (ws ++ [v10]))) := Ext.writeL hD10
        have rm11 : RepM X.K (upd H10 s.heap.objs.size (.lst (ws ++ [v10]))) M10 := fun a o e => by
          cases o with
          | lst es =>
            obtain ⟨zs, e1, e2⟩ := rm10.lst e
            have na : a ≠ s.heap.objs.size := fun z => by rw [z, hM10] at e; cases e
            exact ⟨zs, by rw [upd_ne na]; exact e1, Dats.mono ex _ _ e2⟩
        have r11 : Rep X.K (upd H10 s.heap.objs.size (.lst (ws ++ [v10]))) σ8 (some ds[i] :: frOf fs ρ) M10 := ⟨fun j d e => let ⟨v, e1, e2⟩ := r10.env j d e; ⟨v, e1, Dat.mono ex _ _ e2⟩, r10.len, rm11⟩
        have fr11 : Fr M H M10 (upd H10 s.heap.objs.size (.lst (ws ++ [v10]))) := fun b o n e => by
          obtain ⟨e1, n1⟩ := (fr59.trans fr10) b o n e
          exact ⟨by rw [upd_ne (ne_of_none e fD)]; exact e1, n1⟩
        obtain ⟨n1, n2⟩ := next I11
        exact wpAny_pure ⟨rfl, ds.length - (i + 1), by omega, i + 1, acc ++ [dy], M10, rfl, hlt, ⟨σ8, _, _, ws ++ [v10], I11.unpinned, n1, n2, r11, fr11, upd_same, hM10, Dats.mono ex _ _ (da10.append (Dats.one dd10)), by simp; omega⟩, q10⟩
    · have ei : i = ds.length := by omega
      subst ei
      rw [List.drop_of_length_le (Nat.le_refl _)] at q5
      obtain ⟨hg, q5⟩ := q5
      have hinv := stay M5 H5 fr5 r5.mem hg
      refine wpAny_bind (thnF (T.done (blk X sc x ys (closeL X.env.cells sc.names []) s3.heap.objs.size s3 (upd H s.heap.objs.size (.lst [])) fp) rfl rfl rfl hc ds.length [] s5 σ5 H5 (fun _ _ => False) I5 (fpX f5) st5 (hJ.stop H5 hinv)) fun r6 s6 ⟨e6, I6⟩ => ?_)
      subst e6
      refine wpAny_pure ?_
      obtain ⟨m, hm, _⟩ := id I6.loc
      have I7 : Inv X pins σ H5 s6 := I3.call' (s' := s6) (ch := fp) I6.os I6.base I6.hok I6.bare fun b hb => ⟨(hf b hb).2.2.2.1, (hf b hb).2.1, (hf b hb).2.2.2.2.1, (hf b hb).2.2.2.2.2⟩
      refine fin _ _ s6 H5 I7 ⟨m, hm⟩ (I3.fpOk (Nat.le_refl _) I6.free) (Post.back fa ⟨.ref s.heap.objs.size, updM M5 s.heap.objs.size (.lst acc), fun b o n e => ?_, dat_ref.mpr rfl, fun a o e => ?_, q5 _ hM5⟩)
      · obtain ⟨e1, n1⟩ := fr5 b o n e
        exact ⟨e1, by rw [updM_ne (ne_of_none e fD)]; exact n1⟩
      · by_cases ha : a = s.heap.objs.size
        · subst ha
          rw [updM_same] at e
          cases e
          exact ⟨ws, hD5, da5⟩
        · rw [updM_ne ha] at e
          exact r5.mem a o e
  exact codeAny_compStart_list (loop _ rfl) (T.self X.A 0 _ _ _ st4 (loop _ rfl))
end
end L3
namespace L3
open PySem PySem.Spec PyProof.Rows L2
section
variable {X : Cx} {sc : Scope} {x : Str} {ys : List Str} {fs : List Nat} {elt iter : Expr} {px pos : Pos} {ifs : List Expr} {tt : TT3} {te : TE3} {ti : TE3}
def wLC (Q : DK) : List D → Mp → Prop := fun zs M2 => ∀ p, M2 p = none → Q (.ref p) (updM M2 p (.lst zs))
def tLCR (fs : List Nat) (t : TA3) (tt : TT3) (te : TE3) : TE3 := fun ρ M Q => t ρ M fun vs M1 => ∃ j : Int, vs = [.int j] ∧ -(2 ^ 62) ≤ j ∧ j < 2 ^ 62 ∧ j.toNat < sizeLine ∧ Hold (runLC (fun _ => True) tt te (frOf fs ρ) (wLC Q) ((List.range j.toNat).map fun (k : Nat) => L3.D.int (k : Int)) [] M1)
def RLC (X : Cx) (fs : List Nat) (tt : TT3) (te : TE3) (σ : St) (ρ : En) (M : Mp) (H : Hp) (Q : DK) : It → Hp → Prop := fun J H2 => ∃ M2 inv ds gd, Fr M H M2 H2 ∧ Rep X.K H2 σ ρ M2 ∧ ItIs X.K J inv ds ∧ ds.length < sizeLine ∧ (∀ M1 H1, Fr M2 H2 M1 H1 → RepM X.K H1 M1 → gd M1 → inv H1) ∧ runLC gd tt te (frOf fs ρ) (wLC Q) ds [] M2
theorem fin_val {pins : List (Addr × Obj)} {σ : St} {M : Mp} {H : Hp} {Q : DK} {E : Value → Shared → Prop} : ∀ (C Dl : Addr) (s6 : Shared) (H5 : Hp), Inv X pins σ H5 s6 → (∃ m, s6.heap.Ns C m) → FpOk X pins H5 C → Post X.K M H Q (.ref Dl) H5 →
    compPost (model X.prog X.w) X.A E none (EP X pins σ (Post X.K M H Q)) (.ref Dl) C (.ok .next) s6 := fun C Dl s6 H5 I ⟨m, hm⟩ f P =>
  ⟨m, hm, fun h' sb => ⟨.ref Dl, H5, I.turned (t' := s6.toks) (fun b o hb e => sb.extBut b o hb e) f.1 f.2.1 f.2.2.2.1 f.2.2.2.2.1 f.2.2.2.2.2, rfl, P⟩⟩
theorem lc_go {use : Option (Value → Sem Unit)} {Qs : Value → Shared → Prop} {ps : Pos} (hc : X.calm = true) (hk : compChk X.env.scope X.N sc x ys fs = true) (ht : ∀ cl C s0 H0 ex, PL3 (blk X sc x ys cl C s0 H0 ex) ifs tt) (he : ∀ cl C s0 H0 ex, PE3 (blk X sc x ys cl C s0 H0 ex) elt te)
    (hs : ∀ z, foldedSetIterable iter X.env z = pure z) {pins : List (Addr × Obj)} {s : Shared} {σ : St} {H : Hp} {ρ : En} {M : Mp} {Q : DK} (I : Inv X pins σ H s)
    (fin : ∀ (C Dl : Addr) (s6 : Shared) (H5 : Hp), Inv X pins σ H5 s6 → (∃ m, s6.heap.Ns C m) → FpOk X pins H5 C → Post X.K M H Q (.ref Dl) H5 → compPost (model X.prog X.w) X.A X.xe use Qs (.ref Dl) C (.ok .next) s6)
    (h : wpAny (model X.prog X.w) X.A (eval iter X.env) (fun v s1 => wpAny (model X.prog X.w) X.A (pyIter v) (PIE X pins σ (.Name x px) (RLC X fs tt te σ ρ M H Q)) X.xe s1) X.xe s) :
    wpAny (model X.prog X.w) X.A (comprehension (.ListComp elt [⟨.Name x px, iter, ifs, 0⟩] sc pos) sc X.env ps (newList []) false (eval iter X.env) use) Qs X.xe s := by
  have ck := CompOk.of hk
  refine wpAny_comprehension_free (use := use) (cl := closeL X.env.cells sc.names []) rfl hs (closure_is fun y hy z => I.ok.has y.1 (.inl (ck.fre y hy z))) ck.kind ck.names (thn h fun v s1 h1 => thn h1 fun itv s2 h2 => ?_)
  obtain ⟨it, fp, tn, J, H2, e, I2, T, st2, f2, M2, inv, ds, gd, fr, r2, hJ, hz, stay, q⟩ := h2
  subst e
  exact lc_core hc ck ht he fr fin I2 r2 T st2 f2 hJ hz stay q
structure PC3 (X : Cx) (sc : Scope) (x : Str) (px : Pos) (ys : List Str) (fs : List Nat) (iter : Expr) (ifs : List Expr) (elt : Expr) (t : TE3) : Prop where
  run : ∀ {use : Option (Value → Sem Unit)} {Qs : Value → Shared → Prop} {ps pos : Pos} {pins : List (Addr × Obj)} {s : Shared} {σ : St} {H : Hp} {ρ : En} {M : Mp} {Q : DK}, Inv X pins σ H s → Rep X.K H σ ρ M → t ρ M Q →
    (∀ (C Dl : Addr) (s6 : Shared) (H5 : Hp), Inv X pins σ H5 s6 → (∃ m, s6.heap.Ns C m) → FpOk X pins H5 C → Post X.K M H Q (.ref Dl) H5 → compPost (model X.prog X.w) X.A X.xe use Qs (.ref Dl) C (.ok .next) s6) →
    wpAny (model X.prog X.w) X.A (comprehension (.ListComp elt [⟨.Name x px, iter, ifs, 0⟩] sc pos) sc X.env ps (newList []) false (eval iter X.env) use) Qs X.xe s
theorem q_lc {t : TE3} (h : PC3 X sc x px ys fs iter ifs elt t) : PE3 X (.ListComp elt [⟨.Name x px, iter, ifs, 0⟩] sc pos) t := by
  constructor
  intro pins s σ H ρ M Q I r q
  rw [eval_ListComp]
  exact h.run I r q fin_val
theorem s_lc {t : TE3} {j : Nat} {y : Str} {py spos : Pos} (h : PC3 X sc x px ys fs iter ifs elt t) (hN : X.N.Nodup) (hj : X.N[j]? = some y) (hy : Loc X.env.scope y)
    (hsw : swapsWith (.ListComp elt [⟨.Name x px, iter, ifs, 0⟩] sc pos) (some (.Name y py)) spos.line X.env = pure true := by rfl) (hf : X.fn y = true ∨ X.env.scope.names.lookup y = some .local := by first | exact .inl rfl | exact .inr rfl) :
    PS3 X (.Assign [.Name y py] (.ListComp elt [⟨.Name x px, iter, ifs, 0⟩] sc pos) spos) (tSet3 j t) := by
  constructor
  intro pins s σ H ρ M D I r q
  rw [exec_Assign_Name_used _ _ _ _ hsw]
  refine wpAny_bind (wpAny_standAt (wpAny_bind ?_))
  show wpAny (model X.prog X.w) X.A (do { let _ ← comprehension (.ListComp elt [⟨.Name x px, iter, ifs, 0⟩] sc pos) sc X.env _ (newList []) false (eval iter X.env) (some (assign (.Name y py) X.env)) }) _ _ s
  refine wpAny_bind (thn (h.run (use := some (assign (.Name y py) X.env)) (Qs := fun _ s' => SP X pins (ends X.K M H D) .next s') I r q fun C Dl s6 H5 I6 hC f P => ?_) fun _ s' hq => wpAny_pure (wpAny_pure hq))
  obtain ⟨m, o, es, ep, ho, hd, hrest⟩ := hC
  obtain ⟨d, M5, fr5, dd, rm5, q5⟩ := P
  have I6' : Inv X (pins ++ [(C, o)]) σ H5 s6 := I6.pins_of fun p hp => (List.mem_append.mp hp).elim (fun z => I6.pin p (List.mem_append_right _ z)) fun z => by
    have e := List.mem_singleton.mp z
    subst e
    exact ⟨ho, f.1, f.2.1, f.2.2.1, fun v z => by rw [hd] at z; cases z⟩
  refine thn ((g_name (i := j) (x := y) (pos := py) hN hj hy hf).run _ s6 σ H5 ρ M5 (.ref Dl) d (.ref Dl) (D.nx) I6' (r.go fr5 rm5) rfl dd q5) fun _ s7 ⟨σ7, H7, I7, ρ7, M7, fr7, r7, q7⟩ => ?_
  have pin := I7.pin (C, o) (List.mem_append_right _ (List.mem_append_right _ (List.mem_singleton.mpr rfl)))
  refine ⟨m, ⟨o, es, ep, pin.1, hd, hrest⟩, fun h' sb => ?_⟩
  have I8 : Inv X pins σ7 H7 s7 := I7.pins_of fun p hp => I7.pin p (List.mem_append_right _ (List.mem_append_left _ hp))
  exact ⟨σ7, H7, I8.turned (t' := s7.toks) (fun b o hb e => sb.extBut b o hb e) pin.2.1 f.2.1 f.2.2.2.1 f.2.2.2.2.1 f.2.2.2.2.2, ρ7, M7, fr5.trans fr7, r7, q7⟩
theorem q_lcR {a : Expr} {t : TA3} {p rpos : Pos} (hc : X.calm = true) (hk : compChk X.env.scope X.N sc x ys fs = true) (hgl : Gl X "range") (hm : X.mg "range" = none) (ha : PA3 X [a] t) (ht : ∀ cl C s0 H0 ex, PL3 (blk X sc x ys cl C s0 H0 ex) ifs tt) (he : ∀ cl C s0 H0 ex, PE3 (blk X sc x ys cl C s0 H0 ex) elt te)
    (hst : starEach [a] X.env = [(false, eval a X.env)] := by rfl) (hs : ∀ z, foldedSetIterable (.Call (.Name "range" p) [a] [] rpos) X.env z = pure z := by intro _; rfl) : PC3 X sc x px ys fs (.Call (.Name "range" p) [a] [] rpos) ifs elt (tLCR fs t tt te) := by
  constructor
  intro use Qs ps pos pins s σ H ρ M Q I r h fin
  refine lc_go (ρ := ρ) hc hk ht he hs I fin (pi_range1 hgl hm ha.dn hst pins s σ H _ I (dnA_of r h fun vs H' ds M' f dv r' ⟨j, e1, h1, h2, hz, q⟩ => ?_))
  subst e1
  obtain ⟨v, rfl, hv⟩ := dats1 dv
  obtain rfl := dat_int.mp hv
  exact ⟨j, rfl, h1, h2, M', _, _, _, f, r', itr_is, by simpa using hz, fun _ _ _ _ _ => trivial, q.out⟩
theorem runLC_inv {gd : Mp → Prop} {fr : En} {Q : List D → Mp → Prop} {M : Mp} (Pv : Nat → List D → Mp → Prop) : ∀ (ds : List D), (∀ (i : Nat) (d : D) (acc : List D) (M : Mp) (N : List D → Mp → Prop), ds[i]? = some d → Pv i acc M → (∀ acc' M', Pv (i + 1) acc' M' → N acc' M') →
      gd M ∧ tt (some d :: fr) M fun b M1 => if b = true then te (some d :: fr) M1 fun y M2 => N (acc ++ [y]) M2 else N acc M1) →
    (∀ acc M, Pv ds.length acc M → gd M ∧ Q acc M) → Pv 0 [] M → runLC gd tt te fr Q ds [] M := by
  intro ds hstep hend h0
  have key : ∀ (zs : List D) (i : Nat) (acc : List D) (M : Mp), ds.drop i = zs → Pv i acc M → i ≤ ds.length → runLC gd tt te fr Q zs acc M := by
    intro zs
    induction zs with
    | nil =>
      intro i acc M e p hi
      have : ds.length ≤ i := by
        have := congrArg List.length e
        rw [List.length_drop] at this
        simp at this
        omega
      obtain rfl : i = ds.length := by omega
      exact hend acc M p
    | cons z zs ih =>
      intro i acc M e p hi
      have hx : ds[i]? = some z := by
        have := congrArg (fun l => l[0]?) e
        simpa using this
      have hlt : i < ds.length := (List.getElem?_eq_some_iff.mp hx).1
      refine hstep i z acc M _ hx p fun acc' M' p' => ih (i + 1) acc' M' ?_ p' hlt
      rw [← List.drop_drop, e]
      rfl
  exact key ds 0 [] M rfl h0 (Nat.zero_le _)
end
end L3
namespace L3
open PySem PySem.Spec PyProof.Rows L2
section
variable {X : Cx}
theorem eqDs_len {ds es : List D} (h : ds.length ≠ es.length) : eqDs ds es = false := by
  rw [eqDs_all, beq_eq_false_iff_ne.mpr h, Bool.and_false]
def rEqL : R3 := fun d e M Q => ∃ a b xs ys, d = .ref a ∧ e = .ref b ∧ M a = some (.lst xs) ∧ M b = some (.lst ys) ∧ xs.all (plain 9) = true ∧ ys.all (plain 9) = true ∧ Q (.bl (eqDs xs ys)) M
theorem o_eqL (hu : X.A.units + 64 < cLine) : Op3 X (compareOp .Eq) rEqL := by
  constructor
  intro pins s σ H M x y d e v u Q I rm rx ry dx dy ⟨a, b, xs, ys, e1, e2, ha, hb, pa, pb, q⟩
  subst e1; subst e2
  obtain rfl := dat_ref.mp dx
  obtain rfl := dat_ref.mp dy
  obtain rfl : v = Value.ref a := rx
  obtain rfl : u = Value.ref b := ry
  obtain ⟨zs, h1, h2⟩ := rm.lst ha
  obtain ⟨ws, h3, h4⟩ := rm.lst hb
  obtain ⟨its, rv, pl, hz⟩ := I.list (SqL.of (K := X.K) h1)
  obtain ⟨its2, rv2, pl2, hz2⟩ := I.list (SqL.of (K := X.K) h3)
  have l1 := h2.length.trans rv.length
  have l2 := h4.length.trans rv2.length
  have fin : ∀ k, k = eqDs xs ys → EP X pins σ (Post X.K M H Q) (.bool k) s := fun k e => ⟨.bl k, H, I, rfl, post_self rm (dat_bl.mpr rfl) (by rw [e]; exact q)⟩
  by_cases hs : its.toArray.size = its2.toArray.size
  · refine SeqAt.RcAt.lists (A := X.A) (s := s) (e := fun j => eqD (xs.getD j .non) (ys.getD j .non)) pl.isList pl2.isList hs (by omega) (parts_eq I.hok (n := 9) (by show X.A.units + 1 + 9 < cLine; omega) pa pb h2 h4 rv rv2) _ _ _ _ (fin _ ?_)
    simp only [List.size_toArray] at hs
    rw [eqDs_all, List.size_toArray, ← l1]
    have e : ys.length = xs.length := by omega
    rw [e, Nat.min_self, beq_self_eq_true, Bool.and_true]
  · refine SeqAt.RcAt.lists_lengths (A := X.A) (s := s) pl.isList pl2.isList (by simpa using hs) (by omega) _ _ _ _ (fin _ ?_)
    simp only [List.size_toArray] at hs
    exact (eqDs_len (by omega)).symm
abbrev TO3 := En → Mp → (Option Int → Mp → Prop) → Prop
structure PO3 (X : Cx) (e : Option Expr) (t : TO3) : Prop where
  dn : ∃ t2 : TO, PO X e t2 ∧ ∀ σ H ρ M Q Q', Rep X.K H σ ρ M → t ρ M Q → (∀ o H' M', Fr M H M' H' → Rep X.K H' σ ρ M' → Q o M' → Q' o H') → t2 σ H Q'
theorem Dats.drop {K : PySem.W.Frag} {H : Hp} : ∀ {ds : List D} {xs : List V} (n : Nat), Dats K H ds xs → Dats K H (ds.drop n) (xs.drop n)
  | ds, xs, 0, h => h
  | [], xs, n + 1, h => by rw [dats_nil.mp h]; exact dats_nil.mpr rfl
  | d :: ds, xs, n + 1, h => by
    obtain ⟨v, vs, rfl, _, h2⟩ := dats_cons.mp h
    exact Dats.drop n h2
theorem Dats.take {K : PySem.W.Frag} {H : Hp} : ∀ {ds : List D} {xs : List V} (n : Nat), Dats K H ds xs → Dats K H (ds.take n) (xs.take n)
  | ds, xs, 0, h => dats_nil.mpr rfl
  | [], xs, n + 1, h => by rw [dats_nil.mp h]; exact dats_nil.mpr rfl
  | d :: ds, xs, n + 1, h => by
    obtain ⟨v, vs, rfl, h1, h2⟩ := dats_cons.mp h
    exact dats_cons.mpr ⟨v, vs.take n, rfl, h1, Dats.take n h2⟩
def rCatL : R3 := fun d e M Q => ∃ a b xs ys, d = .ref a ∧ e = .ref b ∧ M a = some (.lst xs) ∧ M b = some (.lst ys) ∧ xs.length + ys.length ≤ sizeLine ∧ ∀ p, M p = none → Q (.ref p) (updM M p (.lst (xs ++ ys)))
theorem o_cat : Op3 X (binaryOp .Add) rCatL := op3 op_cat fun H M x y d e Q rm dx dy ⟨a, b, xs, ys, e1, e2, ha, hb, hz, q⟩ => by
  subst e1; subst e2
  obtain rfl := dat_ref.mp dx
  obtain rfl := dat_ref.mp dy
  obtain ⟨zs, h1, h2⟩ := rm.lst ha
  obtain ⟨ws, h3, h4⟩ := rm.lst hb
  exact ⟨a, b, zs, ws, rfl, rfl, h1, h3, by rw [← h2.length, ← h4.length]; exact hz, fun p hp => ⟨.ref p, updM M p (.lst (xs ++ ys)), Fr.new hp fun _ hb => updM_ne hb, dat_ref.mpr rfl, rm.newL hp (h2.append h4), q p (rm.free hp)⟩⟩
end
end L3
namespace L3
open PySem PySem.Spec PyProof.Rows L2
section
variable {X : Cx}
def Lst (M : Mp) (d : D) (xs : List D) : Prop := d = .frl xs ∨ ∃ a, d = .ref a ∧ M a = some (.lst xs)
theorem Lst.of {M : Mp} {a : Addr} {xs : List D} (h : M a = some (.lst xs)) : Lst M (.ref a) xs := .inr ⟨a, rfl, h⟩
theorem Lst.sq {K : PySem.W.Frag} {H : Hp} {M : Mp} {d : D} {xs : List D} {x : V} (h : Lst M d xs) (rm : RepM K H M) (dx : Dat K H d x) : ∃ a zs, x = .ref a ∧ SqL K H a zs ∧ Dats K H xs zs := by
  rcases h with rfl | ⟨a, rfl, hM⟩
  · obtain ⟨a, zs, rfl, h1, h2⟩ := dat_frl.mp dx
    exact ⟨a, zs, rfl, h1.sq, h2⟩
  · obtain rfl := dat_ref.mp dx
    obtain ⟨zs, h1, h2⟩ := rm.lst hM
    exact ⟨a, zs, rfl, SqL.of h1, h2⟩
end
end L3
namespace K10
open PySem PySem.Spec PyProof.Rows PySem.W PySem.Calls Builtin Builtin.ObjectAttr
abbrev bmV : List Value := [.type "ValueError", .type "Exception", .type "BaseException", .type "object"]
abbrev xObj (C t : Addr) : Obj := { cls := .ref C, data := .fields #[.ref t, .none, .none, .none, .bool false, .none] }
abbrev yObj (C t d : Addr) : Obj := { cls := .ref C, dict := some d, data := .fields #[.ref t, .none, .none, .none, .bool false, .none] }
section
variable {prog : Program} {w : World} {A : Around} {E : Value → Shared → Prop} {s : Shared} {K : Frag} {C L : Addr} {h₀ : Heap} {m : Str → Option Value} {news : List (Addr × Obj)} {Q : Value → Shared → Prop}
theorem exc_at {h : Heap} {bmB : List Value} {newId : String} (X : K.In h) (q : excIn K C bmB newId = true) :
    ∃ bm N nm q bs hdct sn sub ab col dd k0 k1 k2 k3 k5 mN, h.get? C = some (excClassObj nm q C N bs bm hdct sn sub ab col dd k0 k1 k2 k3 k5 newId) ∧ h.Ns N mN ∧ mN "__init__" = none ∧ OwnTail h bmB bm := by
  unfold excIn at q
  split at q
  · rename_i dd cd sl ho
    split at q
    · rename_i C' bm k0 k1 k2 k3 n k5 hm hs
      simp only [Bool.and_eq_true, beq_iff_eq, Bool.not_eq_true'] at q
      obtain ⟨⟨⟨⟨⟨rfl, rfl⟩, hdel⟩, ht⟩, hok⟩, hni⟩ := q
      obtain ⟨nm, bs, mro, ns, qn, hd, sn, sub, ab, col, del⟩ := cd
      dsimp only at hm hdel hok hni
      subst hm hdel
      have hsl : sl = #[k0, k1, k2, k3, some (.builtin n), k5] := by
        obtain ⟨l⟩ := sl
        simp only at hs
        rw [hs]
      subst hsl
      exact ⟨bm, ns, nm, qn, bs, hd, sn, sub, ab, col, dd, k0, k1, k2, k3, k5, _, X _ _ ho, .of_isNs (isNs_of_in X hok), nsMap_none_of_in X hok hni, tail_of_in X ht⟩
    · cases q
  · cases q
end
structure XC (K : PySem.W.Frag) (C : Addr) : Prop where
  ga : findIn K (.ref C) "__getattribute__" = some (some (.builtin "BaseException.__getattribute__"))
  gt : findIn K (.ref C) "__getattr__" = some none
  cl : findIn K (.ref C) "__class__" = some (some (.builtin "object.__class__"))
  sb : subIn K (.ref C) (.type "BaseException") = some true
  mo : mroIn K C (.type "object") = some true
  is : isClsIn K C = true
section
variable {prog : Program} {w : World} {A : Around} {E : Value → Shared → Prop} {h : Heap} {g : Array GenState} {d : Drawn} {t : Nat} {os : OsState} {a : Addr} {o : Obj} {od : Option Obj} {K : PySem.W.Frag} {C : Addr}
theorem tl_K {M : Model} {v : Value} {n : Str} {r : Option Value} {Q : Option Value → Shared → Prop} (X : K.In h) (e : findIn K v n = some r) (hq : Q r ⟨h, g, d, t, os⟩) : wpAny M A (typeLookup v n) Q E ⟨h, g, d, t, os⟩ := (looks_findIn X e).at hq
theorem sub_K {M : Model} {v u : Value} {r : Bool} {Q : Bool → Shared → Prop} (X : K.In h) (e : subIn K v u = some r) (hq : Q r ⟨h, g, d, t, os⟩) : wpAny M A (isSubtype v u) Q E ⟨h, g, d, t, os⟩ := (looks_subIn X e).at hq
theorem xc_check {M : Model} {nameV : Value} {Q : Unit → Shared → Prop} (X : K.In h) (Z : XC K C) (hx : h.get? a = some o) (hc : o.cls = .ref C) (hq : Q () ⟨h, g, d, t, os⟩) :
    wpAny M A (checkBuiltinCall "BaseException.__getattribute__" ⟨[.ref a, nameV], []⟩) Q E ⟨h, g, d, t, os⟩ := by
  have hk : builtinKind "BaseException.__getattribute__" = some .slot := by decide +kernel
  have hsplit : splitId "BaseException.__getattribute__" = some ("BaseException", "__getattribute__") := by decide +kernel
  have ha := F.args_bexc_ga (.ref a) nameV
  simp only [checkBuiltinCall, hk, hsplit]
  refine wpAny_bind ?_
  · unfold isInstance
    repeat (first | (with_reducible refine wpAny_loadPart_at hx ?_; rw [hc]) | with_reducible refine sub_K X Z.sb ?_ | wp_step)
    exact hq
theorem xc_entry {tk : Tok} {Q : Fin → Shared → Prop} (X : K.In h) (Z : XC K C) (I : InstAt h a o C od) (hq : Q (.done (.ret (.ref C))) ⟨h, g, d, t, os⟩) :
    wpAny (model prog w) A (Builtin.«object.__getattribute__» ⟨[.ref a, .str "__class__" tk], []⟩) Q E ⟨h, g, d, t, os⟩ := by
  have hx := I.at_
  have hc := I.cls
  have hT5 : (⟨h, g, d, t, os⟩ : Shared).TypeIs (.builtin "object.__class__") "getset_descriptor" := F.typeOf_object_class
  have f5 := F.typeOf_object_class
  have f6 := F.slot_gs_get.lookup
  have f7 := F.slot_gs_set.lookup
  repeat (any_goals (first | assumption | (with_reducible refine wpAny_loadPart_at hx ?_; rw [hc]) | with_reducible refine tl_K X Z.cl ?_ | wp_step))
  refine class_get (s := ⟨h, g, d, t, os⟩) X I Z.mo ?_
  repeat (any_goals (first | assumption | wp_step))
theorem xv_entry {name : Str} {v : Value} {tk : Tok} {Q : Fin → Shared → Prop} (X : K.In h) (I : InstAt h a o C od) (hf : findObj K C od name = some (.value v)) (hq : Q (.done (.ret v)) ⟨h, g, d, t, os⟩) :
    wpAny (model prog w) A (Builtin.«object.__getattribute__» ⟨[.ref a, .str name tk], []⟩) Q E ⟨h, g, d, t, os⟩ := by
  have L0 := I.type (M := model prog w)
  have L1 := looks_find (M := model prog w) X I hf
  refine wpAny_bind (wpAny_pure (wpAny_bind (wpAny_pure (wpAny_bind (L0.at (wpAny_bind (L1.at ?_)))))))
  exact wpAny_pure hq
theorem xc_call {tk : Tok} {R : Result → Shared → Prop} (X : K.In h) (Z : XC K C) (I : InstAt h a o C od) (hq : R (.ok (.ret (.ref C))) ⟨h, g, d, t, os⟩) :
    codeAny (model prog w) A (.call (.builtin "BaseException.__getattribute__") ⟨[.ref a, .str "__class__" tk], []⟩) R ⟨h, g, d, t, os⟩ :=
  codeAny_call_builtin F.attr_ValueError.ga.plain F.entry_bexc_ga (xc_check X Z I.at_ I.cls (xc_entry X Z I hq))
theorem xv_call {name : Str} {v : Value} {tk : Tok} {R : Result → Shared → Prop} (X : K.In h) (Z : XC K C) (I : InstAt h a o C od) (hf : findObj K C od name = some (.value v)) (hq : R (.ok (.ret v)) ⟨h, g, d, t, os⟩) :
    codeAny (model prog w) A (.call (.builtin "BaseException.__getattribute__") ⟨[.ref a, .str name tk], []⟩) R ⟨h, g, d, t, os⟩ :=
  codeAny_call_builtin F.attr_ValueError.ga.plain F.entry_bexc_ga (xc_check X Z I.at_ I.cls (xv_entry X I hf hq))
theorem xc_by {tk : Tok} {fill expr : Bool} {Q : Value → Shared → Prop} (X : K.In h) (Z : XC K C) (I : InstAt h a o C od) (hq : Q (.ref C) ⟨h, g, d, t, os⟩) :
    wpAny (model prog w) A (getAttrBy (.ref a) (.str "__class__" tk) fill expr) Q E ⟨h, g, d, t, os⟩ := by
  have hx := I.at_
  have hc := I.cls
  have f3 := F.attr_ValueError.ga.bind (.ref a)
  have hx0 : (expr && onTheHeap (Value.builtin "BaseException.__getattribute__")) = false := by cases expr <;> rfl
  have hx2 : (Value.builtin "BaseException.__getattribute__" == Value.builtin "object.__getattribute__") = false := by decide +kernel
  have hx1 : (onTheHeap (Value.ref C) && Value.builtin "BaseException.__getattribute__" == Value.builtin "object.__getattribute__") = false := by rw [hx2]; rfl
  repeat (any_goals (first | assumption | (with_reducible refine wpAny_loadPart_at hx ?_; rw [hc]) | with_reducible refine tl_K X Z.ga ?_ | with_reducible refine tl_K X Z.gt ?_ | wp_step))
  refine xc_call X Z I ?_
  repeat (any_goals (first | assumption | wp_step))
theorem xv_by {name : Str} {v : Value} {tk : Tok} {fill expr : Bool} {Q : Value → Shared → Prop} (X : K.In h) (Z : XC K C) (I : InstAt h a o C od) (hf : findObj K C od name = some (.value v)) (hv : handedIn v = true) (hq : Q v ⟨h, g, d, t, os⟩) :
    wpAny (model prog w) A (getAttrBy (.ref a) (.str name tk) fill expr) Q E ⟨h, g, d, t, os⟩ := by
  have hx := I.at_
  have hc := I.cls
  have hh := handedOut_of hv
  have f3 := F.attr_ValueError.ga.bind (.ref a)
  have hx0 : (expr && onTheHeap (Value.builtin "BaseException.__getattribute__")) = false := by cases expr <;> rfl
  have hx2 : (Value.builtin "BaseException.__getattribute__" == Value.builtin "object.__getattribute__") = false := by decide +kernel
  have hx1 : (onTheHeap (Value.ref C) && Value.builtin "BaseException.__getattribute__" == Value.builtin "object.__getattribute__") = false := by rw [hx2]; rfl
  repeat (any_goals (first | assumption | (with_reducible refine wpAny_loadPart_at hx ?_; rw [hc]) | with_reducible refine tl_K X Z.ga ?_ | with_reducible refine tl_K X Z.gt ?_ | wp_step))
  refine xv_call X Z I hf ?_
  repeat (any_goals (first | assumption | wp_step))
theorem xc_attr {Q : Option Value → Shared → Prop} (X : K.In h) (Z : XC K C) (I : InstAt h a o C od) (hq : Q (some (.ref C)) ⟨h, g, d, t + 1, os⟩) : wpAny (model prog w) A (getAttr? (.ref a) "__class__") Q E ⟨h, g, d, t, os⟩ := by
  unfold getAttr? getAttrBy?
  repeat (any_goals (first | assumption | with_reducible apply xc_by X Z I | wp_step))
theorem kitx_exc (Z : XC K C) : KitX K (.ref a) (.ref C) (fun h => ∃ o od, InstAt h a o C od) where
  ty := fun _ _ _ ⟨_, _, I⟩ => I.type
  it := fun _ _ X _ => by
    have hcD : (clsIn K C).isSome = true := Z.is
    unfold clsIn at hcD
    split at hcD
    · rename_i c' d' cd' sl' ho
      intro A' Q' E' s' k q
      unfold isType loadHead
      exact wpAny_bind (wpAny_loadPart (k _ _ (X _ _ ho)) (wpAny_pure q))
    · cases hcD
  ne := fun h tp dd its n sl X htp => by
    refine Bool.eq_false_iff.mpr fun q => ?_
    have e : C = tp := Value.ref.inj (beq_iff_eq.mp q)
    subst e
    have hcD : (clsIn K C).isSome = true := Z.is
    unfold clsIn at hcD
    split at hcD
    · rename_i c' d' cd' sl' ho
      have z := (X _ _ ho).symm.trans htp
      cases z
    · cases hcD
  ca := fun {_ _ _ _ _ s} X ⟨_, _, I⟩ k => by obtain ⟨h, g, d, t, os⟩ := s; exact xc_attr X Z I k
end
section
variable {prog : Program} {w : World} {A : Around} {E : Value → Shared → Prop} {s : Shared} {K : Frag} {C L x : Addr} {h₀ : Heap} {m : Str → Option Value} {news : List (Addr × Obj)} {Q : Value → Shared → Prop}
end
def excT (K : Frag) (C : Addr) : Bool := match K.lookup C with
  | some ⟨.type "type", _, .cls cd, sl⟩ => (match cd.mro, sl.toList with
    | .ref C' :: bm, [_, _, _, _, some (.builtin n), _] => C' == C && n == "ValueError.__new__" && !cd.hasDel && tailIn K bmV bm
    | _, _ => false)
  | _ => false
section
variable {prog : Program} {w : World} {A : Around} {E : Value → Shared → Prop} {s : Shared} {K : Frag} {C L x : Addr} {h₀ : Heap} {m : Str → Option Value} {news : List (Addr × Obj)} {Q : Value → Shared → Prop}
theorem excT_at {h : Heap} (X : K.In h) (q : excT K C = true) :
    ∃ bm N nm q bs hdct sn sub ab col dd k0 k1 k2 k3 k5, h.get? C = some (excClassObj nm q C N bs bm hdct sn sub ab col dd k0 k1 k2 k3 k5 "ValueError.__new__") ∧ OwnTail h bmV bm := by
  unfold excT at q
  split at q
  · rename_i dd cd sl ho
    split at q
    · rename_i C' bm k0 k1 k2 k3 n k5 hm hs
      simp only [Bool.and_eq_true, beq_iff_eq, Bool.not_eq_true'] at q
      obtain ⟨⟨⟨rfl, rfl⟩, hdel⟩, ht⟩ := q
      obtain ⟨nm, bs, mro, ns, qn, hd, sn, sub, ab, col, del⟩ := cd
      dsimp only at hm hdel
      subst hm hdel
      have hsl : sl = #[k0, k1, k2, k3, some (.builtin "ValueError.__new__"), k5] := by
        obtain ⟨l⟩ := sl
        simp only at hs
        rw [hs]
      subst hsl
      exact ⟨bm, ns, nm, qn, bs, hd, sn, sub, ab, col, dd, k0, k1, k2, k3, k5, X _ _ ho, tail_of_in X ht⟩
    · cases q
  · cases q
theorem init_core {h : Heap} {g : Array GenState} {d : Drawn} {t : Nat} {os : OsState} {R : Result → Shared → Prop} {rest : List Value} {fI : Addr} (X : K.In h) (q : excT K C = true)
    (hcall : specialIn K (.ref C) "__call__" = some (some (.builtin "type.__call__"))) (htyp : instIn K (.ref C) (.type "type") = some true)
    (hi : findIn K (.ref C) "__init__" = some (some (.ref fI))) (hf : isFn K (.ref fI) = true) (hr : rest.length ≤ sizeLine)
    (hq : codeAny (model prog w) (A.under (.builtin "type.__call__" ⟨.ref C :: rest, []⟩)) (.call (.ref fI) ⟨.ref (h.objs.size + 1) :: rest, []⟩) (InitBack (h.objs.size + 1) R) ⟨(h.push (⟨.type "tuple", none, .seq rest.toArray, #[]⟩ : Obj)).push (xObj C h.objs.size), g, d, t, os⟩) :
    codeAny (model prog w) A (.call (.ref C) ⟨rest, []⟩) R ⟨h, g, d, t, os⟩ := by
  have B := PySem.F.excBase_ValueError
  obtain ⟨bm, N', nm, q', bs, hdct, sn, sub, ab, col, dd, k0, k1, k2, k3, k5, hC, T⟩ := excT_at X q
  have call := looks_specialIn (M := model prog w) X hcall
  have typ := looks_instIn (M := model prog w) X htyp
  refine codeAny_of_tree ?_
  show wpAny _ _ (callAny (.ref C) _) _ _ _
  refine nd_load hC ?_
  show wpAny _ _ (callAny.viaDunder (.ref C) _) _ _ _
  unfold callAny.viaDunder
  refine wpAny_bind (call.at ?_)
  dsimp only
  rw [tc_bind]
  refine wpAny_bind (wpAny_pure (wpAny_bind (wpAny_pure ?_)))
  refine wpAny_pure (a := Fin.again (.call (.builtin "type.__call__") ⟨.ref C :: rest, []⟩)) (And.intro rfl ?_)
  refine codeAny_call_builtin_at (Code.quiet_builtin _ (by decide +kernel)) entry_typeCall (check_slot tc_kind tc_split typ (tc_args _ _ _) ?_)
  repeat (first | with_reducible refine wpAny_loadPart_at hC ?_ | with_reducible refine wpAny_madeBy_exc hC ?_ | wp_step)
  refine codeAny_call_builtin_code (Code.quiet_builtin _ B.quiet) (wpAny_check_new_subT B T hC ?_)
  refine codeAny_exc_new_subT B T hC ?_ hr
  have k : ∀ b o, h.get? b = some o → ((h.push (⟨.type "tuple", none, .seq rest.toArray, #[]⟩ : Obj)).push (xObj C h.objs.size)).get? b = some o := fun b o e => Heap.get?_push_of_some _ (Heap.get?_push_of_some _ e)
  have hx : ((h.push (⟨.type "tuple", none, .seq rest.toArray, #[]⟩ : Obj)).push (xObj C h.objs.size)).get? (h.objs.size + 1) = some (xObj C h.objs.size) := by heap_get
  have t1 : Looks (model prog w) ((h.push (⟨.type "tuple", none, .seq rest.toArray, #[]⟩ : Obj)).push (xObj C h.objs.size)) (typeOf (.ref (h.objs.size + 1))) (.ref C) := (Looks.ld hx).andThen .now
  have i1 := (looks_findIn (M := model prog w) X hi).keeps k
  have b1 := (bind_fn (M := model prog w) X (.ref (h.objs.size + 1)) (beq_iff_eq.mp hf)).keeps k
  have hC₁ := k _ _ hC
  have hcC : (Value.ref C :: bm).contains (.ref C) = true := by simp
  show wpAny _ _ _ _ _ _
  unfold isInstance
  refine wpAny_bind (wpAny_bind (t1.at (wpAny_isSubtype_exc hC₁ ?_)))
  rw [hcC]
  unfold callSpecial? specialOf
  repeat (first | with_reducible refine wpAny_call ?_ | lk)
  refine codeAny_mono hq fun r s' z => ?_
  rcases r with e | (v | _ | _ | _) <;> first | exact z | exact z.elim | skip
  obtain ⟨rfl, z⟩ := z
  exact wpAny_pure (wpAny_pure z)
end
def overV : List Value → Bool
  | .ref _ :: r => overV r
  | l => l == bmV
theorem refuse_overV (self : Value) : ∀ {l : List Value}, overV l = true → refuseLoop self "__setattr__" l = pure ()
  | [], e => by cases e
  | v :: r, e => by
    cases v with
    | ref c => rw [refuseLoop_ref]; exact refuse_overV self e
    | _ => rw [show _ :: r = bmV from beq_iff_eq.mp e]; exact PySem.F.store_ValueError.passes self
theorem overV_has : ∀ {l : List Value}, overV l = true → l.contains (.type "object") = true
  | [], e => by cases e
  | v :: r, e => by
    cases v with
    | ref c => rw [List.contains_cons, overV_has (l := r) e, Bool.or_true]
    | _ => rw [show _ :: r = bmV from beq_iff_eq.mp e]; decide +kernel
def overIn (K : Frag) (C : Addr) : Bool := (clsIn K C).any fun cd => overV cd.mro && cd.hasDict
section
variable {prog : Program} {w : World} {A : Around} {E : Value → Shared → Prop} {s : Shared} {K : Frag} {C L x t : Addr} {h₀ : Heap} {m : Str → Option Value} {post : List (Addr × Obj)} {R : Result → Shared → Prop} {name : Str} {v : Value} {tk : Tok}
theorem xsa_open (X : K.In s.heap) (I : InstAt s.heap x (xObj C t) C none) (hp : overIn K C = true) (ht : takerIn K C name = some none)
    (h : ∀ b, wpAny (model prog w) A.in1 (storeInOwnDict (.ref x) (.ref C) (.str name tk) name v b)
      (fun fin s' => match fin with | .done f => R (.ok f) s' | .again c' => c'.quiet = true ∧ codeAny (model prog w) A c' R s') (fun e s' => R (.error e) s') s) :
    codeAny (model prog w) A (.call (.builtin "object.__setattr__") ⟨[.ref x, .str name tk, v], []⟩) R s := by
  have SF := PySem.F.store_object
  obtain ⟨cd, hc, ho⟩ := any_some hp
  obtain ⟨ho, -⟩ := Bool.and_eq_true_iff.mp ho
  have ne : cd.mro.isEmpty = false := by cases q : cd.mro with | nil => rw [q] at ho; cases ho | cons _ _ => rfl
  have sub : Looks (model prog w) s.heap (isInstance (.ref x) (.type "object")) true := I.type.andThen (looks_mroIn X (by unfold mroIn; rw [hc, Option.bind_some, if_neg (by rw [ne]; decide), overV_has ho]))
  refine codeAny_call_builtin SF.slot.plain SF.entry (@check_slot (model prog w) _ _ s "object.__setattr__" "object" "__setattr__" (.ref x) [.str name tk, v] [] _ SF.kind SF.split sub (SF.args (.ref x) (.str name tk) v) ?_)
  obtain ⟨attr, ha, hr⟩ := Option.bind_eq_some_iff.mp ht
  have hm : Looks (model prog w) s.heap (mroOf (.ref C)) cd.mro := (looks_clsIn X hc).andThen .now
  have L3 : Looks (model prog w) s.heap (storeTaker? attr) none := by
    cases attr with
    | none => exact .now
    | some a =>
      obtain ⟨b, hb, hr⟩ := Option.map_eq_some_iff.mp hr
      refine (looks_takesIn X hb).andThen ?_
      cases b
      · exact .now
      · cases hr
  rw [osa_eq, refuse_eq]
  refine wpAny_bind (wpAny_bind (I.type.here (wpAny_bind (hm.here ?_))))
  rw [refuse_overV _ ho]
  refine wpAny_pure (wpAny_bind (I.type.here (wpAny_bind ((looks_findIn X ha).here (wpAny_bind (L3.here ?_))))))
  exact h _
end
section
variable {prog : Program} {w : World} {A : Around} {E : Value → Shared → Prop} {s : Shared} {K : Frag} {C L x t : Addr} {h₀ : Heap} {m : Str → Option Value} {news : List (Addr × Obj)} {Q : Value → Shared → Prop} {c : Value} {b : Bool}
end
end K10
namespace L2
open PySem PySem.Spec PyProof.Rows PySem.W
structure XV (K : Frag) (C : Addr) : Prop where
  xc : K10.XC K C
  tt : K10.excT K C = true
  ca : specialIn K (.ref C) "__call__" = some (some (.builtin "type.__call__"))
  ty : instIn K (.ref C) (.type "type") = some true
  kp : keepIn K (.ref C) = true
  hd : hasDictIn K C = true
  ov : K10.overIn K C = true
  sa : findIn K (.ref C) "__setattr__" = some (some (.builtin "object.__setattr__"))
section
variable {prog : Program} {w : World} {A : Around} {E : Value → Shared → Prop} {s : Shared} {K : Frag} {C x t : Addr} {name : Str} {v : Value} {Q : Unit → Shared → Prop}
theorem set_new (X : K.In s.heap) (hx : s.heap.get? x = some (K10.xObj C t)) (Z : XV K C) (ht : takerIn K C name = some none)
    (h : ∀ h', (∀ b o, b ≠ x → s.heap.get? b = some o → h'.get? b = some o) → h'.get? x = some (K10.yObj C t s.heap.objs.size) → h'.Ns1 s.heap.objs.size (fun y => if y = name then some v else none) →
      Q () { s with heap := h', toks := s.toks + 2 }) : wpAny (model prog w) A (setAttr (.ref x) name v) Q E s := by
  have I : InstAt s.heap x (K10.xObj C t) C none := ⟨hx, rfl, rfl, trivial⟩
  refine set_plain X I Z.sa (K10.xsa_open (s := { s with toks := s.toks + 1 }) X I Z.ov ht fun b => ?_)
  obtain ⟨cd, hc, hd'⟩ := any_some Z.ov
  obtain ⟨-, hd'⟩ := Bool.and_eq_true_iff.mp hd'
  have xne : x ≠ s.heap.objs.size := Nat.ne_of_lt (Heap.lt_size hx)
  have hx1 : (s.heap.push emptyDict).get? x = some (K10.xObj C t) := Heap.get?_push_of_some _ hx
  have hx2 : ((s.heap.push emptyDict).update x fun o => { o with dict := some s.heap.objs.size }).get? x = some (K10.yObj C t s.heap.objs.size) := Heap.get?_update_self _ hx1 rfl
  have hd2 : ((s.heap.push emptyDict).update x fun o => { o with dict := some s.heap.objs.size }).get? s.heap.objs.size = some emptyDict := (Heap.get?_update_other _ _ xne).trans (Heap.get?_push_size s.heap rfl)
  have n2 : ((s.heap.push emptyDict).update x fun o => { o with dict := some s.heap.objs.size }).Ns1 s.heap.objs.size (fun _ => none) := Heap.Ns1.of_empty ⟨emptyDict, #[], _, hd2, rfl, (fun e he => absurd he (by simp)), fun _ => rfl⟩
  refine wpAny_bind (wpAny_pure (wpAny_bind (wpAny_bind (wpAny_loadPart hx (wpAny_bind (Looks.here (s := { s with toks := s.toks + 1 }) (looks_clsIn X hc) ?_))))))
  rw [hd']
  refine wpAny_bind (wpAny_alloc' ?_)
  refine wpAny_bind (wpAny_update' hx1 ?_)
  refine wpAny_pure (wpAny_bind (wpAny_pure (wpAny_bind ?_)))
  refine wpAny_nsSet1 (s := { s with heap := _, toks := s.toks + 1 }) n2 fun h' hn2 hs2 => ?_
  obtain ⟨oD, esD, epD, hoD, hdD, hcD⟩ := hn2.count (PySem.Within.cons name v (m := fun _ => none) (ns := []) (fun y hy => absurd rfl hy))
  refine wpAny_bind (wpAny_lookBehind hoD (by rw [hdD]; exact pastItsLine_dict (Nat.le_trans hcD (by rw [sizeLine_eq, List.length_singleton]; omega))) ?_)
  refine wpAny_pure (h h' (fun b o hb e => ?_) ((hs2.2 _ xne).trans hx2) hn2)
  have bne : b ≠ s.heap.objs.size := Nat.ne_of_lt (Heap.lt_size e)
  exact (hs2.2 _ bne).trans ((Heap.get?_update_other _ _ (Ne.symm hb)).trans (Heap.get?_push_of_some _ e))
end
end L2
namespace L3
open PySem PySem.Spec PyProof.Rows L2
abbrev XO (x C t : Addr) : HO := .ext fun h => h.get? x = some (xO C t)
abbrev YO (x C t d : Addr) : HO := .frz (yO C t d) (.ext fun h => h.get? x = some (yO C t d))
section
variable {X : Cx} {pins : List (Addr × Obj)} {σ : St} {H : Hp} {s : Shared} {h' : Heap}
theorem got_some {P : Program} {w : World} {h : Heap} {a : Addr} {o : HO} (x : ObjOk P w H h a o) : ∃ u, h.get? a = some u := by
  have lt := x.lt
  cases o with
  | lst xs => obtain ⟨_, _, _, _, e⟩ := x; exact ⟨_, e⟩
  | tup xs => obtain ⟨_, _, _, ob, e, _⟩ := x; exact ⟨_, e⟩
  | dK kvs => obtain ⟨_, _, _, _, o, _, _, e, _⟩ := x; exact ⟨_, e⟩
  | dT kvs => obtain ⟨_, _, _, _, o, _, _, e, _⟩ := x; exact ⟨_, e⟩
  | set S n => obtain ⟨o, _, _, _, e, _⟩ := x; exact ⟨_, e⟩
  | ins C dx fs => obtain ⟨_, _, _, e, _⟩ := x; exact ⟨_, e⟩
  | own y => obtain ⟨_, e⟩ := x; exact ⟨_, e⟩
  | xd fs => obtain ⟨_, ⟨_, _, _, e, _⟩, _⟩ := x; exact ⟨_, e⟩
  | rng lo hi => obtain ⟨_, _, _, e⟩ := x; exact ⟨_, e⟩
  | frz ob u => obtain ⟨e, _⟩ := x; exact ⟨_, e⟩
  | tbl ps => exact ⟨_, (show h.get? a = some _ from x)⟩
  | met f y => exact ⟨_, (show h.get? a = some _ from x)⟩
  | ext φ => obtain ⟨_, ⟨_, e⟩, _⟩ := x; exact ⟨_, e⟩
theorem free_of {P : Program} {w : World} {h : Heap} {a : Addr} (ok : HOk P w H h) (n : h.get? a = none) : H a = none := by
  cases q : H a with
  | none => rfl
  | some o => obtain ⟨u, z⟩ := got_some (ok a o q); rw [n] at z; cases z
theorem laid_none {a : Addr} {o : HO} {t' : Nat} (I : Inv X pins σ H s) (k : ∀ b u, s.heap.get? b = some u → h'.get? b = some u) (n : s.heap.get? a = none) (new : ObjOk X.prog X.w (upd H a o) h' a o) :
    Inv X pins σ (upd H a o) { s with heap := h', toks := t' } := by
  have hn : H a = none := free_of I.hok n
  have ne : ∀ b u, s.heap.get? b = some u → b ≠ a := fun b u e z => by rw [z, n] at e; cases e
  refine I.un ⟨fun b u q _ _ _ => k b u q, fun b u q _ _ _ => ⟨u.slots, k b u q⟩, fun b u q m _ => by rw [upd_ne (ne b u q)]; exact m, fun b u q _ => ⟨u, k b u q⟩, fun b xs q => by rw [upd_ne (ne_of_none q hn)]; exact q,
    fun b u xs q => by rw [upd_ne (ne_of_none q hn)]; exact q, fun b ps q => ⟨#[], by rw [upd_ne (ne_of_none q hn), q]; simp⟩⟩ fun b u e => ?_
  by_cases hb : b = a
  · subst hb; rw [upd_same] at e; cases e; exact new
  · rw [upd_ne hb] at e
    exact (I.hok b u e).stay (fun c v _ q => k c v q) (fun c q => by rw [upd_ne (ne_of_none q hn)]; exact q) fun c xs q => by rw [upd_ne (ne_of_none q hn)]; exact q
theorem setX_ok {A : Around} {E : Value → Shared → Prop} {Q : Unit → Shared → Prop} {f : Str} {x C t : Addr} {y : V} {u : Value} (I : Inv X pins σ H s) (e : H x = some (XO x C t)) (Z : XV X.K C) (n : PySem.W.takerIn X.K C f = some none) (ry : RelV y u)
    (h : ∀ d od s', H d = none → d ≠ x → Inv X pins σ (upd (upd H d (.frz od (.xd [(f, y)]))) x (YO x C t d)) s' → Q () s') : wpAny (model X.prog X.w) A (setAttr (.ref x) f u) Q E s := by
  obtain ⟨hx, _, _⟩ := (show ObjOk X.prog X.w H s.heap x (XO x C t) from I.hok x _ e)
  refine set_new I.kIn hx Z n fun h' kp gx n1 => ?_
  obtain ⟨od, es, ep, god, r1⟩ := id n1
  have hd : H s.heap.objs.size = none := I.hok.fresh (Nat.le_refl _)
  have dne : s.heap.objs.size ≠ x := Nat.ne_of_gt (Heap.lt_size hx)
  have nx : ∀ b, H b = none → b ≠ x := fun b q z => by rw [z, e] at q; cases q
  have old : ∀ b o, H b = some o → (∀ φ, o ≠ .ext φ) → upd (upd H s.heap.objs.size (.frz od (.xd [(f, y)]))) x (YO x C t s.heap.objs.size) b = some o := fun b o q m => by
    have h1 : b ≠ x := fun z => by rw [z, e] at q; exact m _ (Option.some.inj q).symm
    rw [upd_ne h1, upd_ne (ne_of_none q hd)]
    exact q
  refine h s.heap.objs.size od _ hd dne ?_
  refine I.step (h' := h') (g' := s.gens) (d' := s.drawn) (t' := s.toks + 2) (ch := []) (fun _ z => nomatch z) (fun b o _ _ _ q m => kp b o (nx b m) q) (fun b o _ _ _ q m => ⟨o.slots, kp b o (nx b m) q⟩)
    (fun b o _ q m => by rw [upd_ne (nx b m), upd_ne (Nat.ne_of_lt (Heap.lt_size q))]; exact m) (fun b o _ q => ?_) (fun b xs q => old b _ q fun _ z => nomatch z) (fun b o u q => old b _ q fun _ z => nomatch z)
    (fun b ps q => ⟨#[], by rw [old b _ q fun _ z => nomatch z]; simp⟩) (fun m hm => ?_) (fun a o q => ?_) I.bare
  · by_cases hb : b = x
    · subst hb; exact ⟨_, gx⟩
    · exact ⟨o, kp b o hb q⟩
  · obtain ⟨o, es, ep, ho, r⟩ := hm
    exact ⟨o, es, ep, kp _ _ (nx _ I.free) ho, r⟩
  · by_cases ha : a = x
    · subst ha
      rw [upd_same] at q; cases q
      exact ⟨gx, gx, ⟨_, gx⟩, fun h1 h2 z k => k _ z⟩
    · rw [upd_ne ha] at q
      by_cases hb : a = s.heap.objs.size
      · subst hb
        rw [upd_same] at q; cases q
        refine ⟨god, _, n1, fun g => ?_⟩
        by_cases hg : g = f
        · subst hg
          simp only [List.lookup, beq_self_eq_true, if_pos]
          exact ry
        · have hgb : (g == f) = false := beq_eq_false_iff_ne.mpr hg
          simp only [List.lookup, hgb, if_neg hg]
          trivial
      · rw [upd_ne hb] at q
        refine (I.hok a o q).stay (fun b v hc z => kp b v ?_ z) (fun b z => old b _ z fun _ z => nomatch z) fun b xs z => old b _ z fun _ z => nomatch z
        rcases hc with rfl | hc
        · exact ha
        · rintro rfl
          rw [e] at hc; cases hc
end
def sFldX (K : PySem.W.Frag) (ta tv : TE) (f : Str) : TS := fun D σ H => tv σ H fun y H1 => ta σ H1 fun z H2 => ∃ x C t, z = .ref x ∧ H2 x = some (XO x C t) ∧ XV K C ∧ PySem.W.takerIn K C f = some none ∧
  ∀ d od, H2 d = none → d ≠ x → D.nx σ (upd (upd H2 d (.frz od (.xd [(f, y)]))) x (YO x C t d))
theorem ps_fldX {X : Cx} {o value : Expr} {f : Str} {pos pos' : Pos} {ta tv : TE} (ha : PE X o ta) (hv : PE X value tv) (hs : swapsWith value (some (.Attribute o f pos')) pos.line X.env = pure false) : PS X (.Assign [.Attribute o f pos'] value pos) (sFldX X.K ta tv f) := by
  intro pins s σ H D I h
  refine plainObj_wpAny_Assign_Attribute (thn (hv pins s σ H _ I h) fun u s1 ⟨y, H1, I1, ry, q⟩ => thn (ha pins s1 σ H1 _ I1 q) fun ov s2 ⟨z, H2, I2, rz, x, C, t, ez, ea, c, n, q2⟩ => ?_) hs
  subst ez
  obtain rfl : ov = Value.ref x := rz
  exact setX_ok I2 ea c n ry fun d od s3 h1 h2 I3 => ⟨σ, _, I3, q2 d od h1 h2⟩
def spI (C : Addr) (f : Str) : Sp := fun vs H Q _ => ∃ x t y, vs = [.ref x, y] ∧ H x = some (XO x C t) ∧ ∀ d od, H d = none → d ≠ x → Q .non (upd (upd H d (.frz od (.xd [(f, y)]))) x (YO x C t d))
section
variable {X : Cx} {e : Expr} {es : List Expr} {x : Str} {p pos : Pos} {C : Addr} {t : TA3}
def tExc0 (C : Addr) (t : TA3) : TE3 := fun ρ M Q => t ρ M fun ds M1 => ds.length ≤ 1000 ∧ Q (.exc C "" []) M1
theorem q_exc0 (Z : PySem.W.excIn X.K C K10.bmV "ValueError.__new__" = true) (kp : PySem.W.keepIn X.K (.ref C) = true) (hg : Gl X x) (hm : X.mg x = some (.ref C)) (ha : PA3 X (e :: es) t)
    (hdb : (x == ("__debug__" : Str)) = false := by decide) (he : starEach (e :: es) X.env = (false, eval e X.env) :: starEach es X.env := by rfl) (hpl : (backTo pos (starEach es X.env)).any (·.1) = false := by rfl) :
    PE3 X (.Call (.Name x p) (e :: es) [] pos) (tExc0 C t) := by
  constructor
  intro pins s σ H ρ M Q I r h
  refine wpAny_Call_Name_kw (ld_glob I hg hm ?_ hdb)
  refine PySem.W.callWith_K (h₀ := X.base) I.ok.mod.kin kp (thn (ha.run pos pins s σ H ρ M _ I r h) fun us s1 ⟨vs, H1, I1, rv, ds, M1, f1, dv, rm1, hl, q⟩ => ⟨I1.kIn, ?_⟩) he hpl
  obtain ⟨bm, N', nm, q', bs, hdct, sn, sub, ab, col, dd, k0, k1, k2, k3, k5, mN, hC, hn, hni, T⟩ := K10.exc_at I1.kIn Z
  have hr : us.length ≤ sizeLine := by
    rw [← rv.length, ← dv.length]
    exact Nat.le_of_lt (small1000 hl)
  obtain ⟨hh, g, dr, tk, os⟩ := s1
  refine wpAny_call_exc_subT (hrest := hr) PySem.F.excBase_ValueError T hC hn hni fun h' a hm => ?_
  obtain ⟨ta, h1, h2, h3⟩ := hm.there
  have n1 : H1 a = none := free_of I1.hok hm.new
  have kq : ∀ b o, H1 b = some o → upd H1 a (.frz (xO C ta) (.ext fun h => h.get? a = some (xO C ta))) b = some o := fun b o z => by rw [upd_ne (ne_of_none z n1)]; exact z
  refine ⟨.ref a, upd H1 a (.frz (xO C ta) (.ext fun h => h.get? a = some (xO C ta))), laid_none (t' := tk) I1 hm.keeps hm.new ⟨h1, h1, ⟨_, h1⟩, fun _ _ z k => k _ z⟩, rfl, .exc C "" [], M1, f1.trans fun b o n z => ⟨kq b o z, n⟩, ?_, rm1.keep kq, q⟩
  exact dat_exc.mpr ⟨a, _, _, [], rfl, upd_same, .inl ⟨rfl, ta, rfl⟩, dats_nil.mpr rfl⟩
def tExc1 (C : Addr) (f : Str) (t : TA3) : TE3 := fun ρ M Q => t ρ M fun ds M1 => ∃ d, ds = [d] ∧ Q (.exc C f [d]) M1
theorem q_exc1 {f : Str} {fI : Addr} {fd : FuncData} {ps : List Str} {k : Nat} (Z : XV X.K C) (hi : PySem.W.findIn X.K (.ref C) "__init__" = some (some (.ref fI))) (hf : PySem.W.isFn X.K (.ref fI) = true)
    (F : FnOk X.prog X.w X.K X.mg X.base CX0 k fI fd ps (spI C f)) (hr : Room (k + 1) X.A) (hg : Gl X x) (hm : X.mg x = some (.ref C)) (hb : Binds X.K fd ps []) (ha : PA3 X (e :: es) t)
    (hdb : (x == ("__debug__" : Str)) = false := by decide) (he : starEach (e :: es) X.env = (false, eval e X.env) :: starEach es X.env := by rfl) (hpl : (backTo pos (starEach es X.env)).any (·.1) = false := by rfl) :
    PE3 X (.Call (.Name x p) (e :: es) [] pos) (tExc1 C f t) := by
  constructor
  intro pins s σ H ρ M Q I r h
  refine wpAny_Call_Name_kw (ld_glob I hg hm ?_ hdb)
  refine PySem.W.callWith_K (h₀ := X.base) I.ok.mod.kin Z.kp (thn (ha.run pos pins s σ H ρ M _ I r h) fun us s1 ⟨vs, H1, I1, rv, ds, M1, f1, dv, rm1, d, ed, q⟩ => ⟨I1.kIn, ?_⟩) he hpl
  subst ed
  obtain ⟨y, vs', rfl, dy, z⟩ := dats_cons.mp dv
  obtain rfl := dats_nil.mp z
  obtain ⟨u, rfl, ry⟩ := vals1 rv
  have hx2 : ((s1.heap.push (⟨.type "tuple", none, .seq [u].toArray, #[]⟩ : Obj)).push (K10.xObj C s1.heap.objs.size)).get? (s1.heap.objs.size + 1) = some (xO C s1.heap.objs.size) := by heap_get
  have I1' : Inv X pins σ H1 { s1 with heap := s1.heap.push (⟨.type "tuple", none, .seq [u].toArray, #[]⟩ : Obj) } := I1.kept (t' := s1.toks) fun b o z => Heap.get?_push_of_some _ z
  have nx : H1 (s1.heap.objs.size + 1) = none := I1.hok.fresh (Nat.le_succ _)
  have I2 : Inv X pins σ (upd H1 (s1.heap.objs.size + 1) (XO (s1.heap.objs.size + 1) C s1.heap.objs.size)) { s1 with heap := (s1.heap.push (⟨.type "tuple", none, .seq [u].toArray, #[]⟩ : Obj)).push (K10.xObj C s1.heap.objs.size) } :=
    I1'.laid (a := s1.heap.objs.size + 1) (t' := s1.toks) (fun b o z => Heap.get?_push_of_some _ z) (Nat.le_of_eq (Heap.size_push _ _)) ⟨hx2, ⟨_, hx2⟩, fun _ _ z k => k _ z⟩
  have hsp : spI C f [.ref (s1.heap.objs.size + 1), y] (upd H1 (s1.heap.objs.size + 1) (XO (s1.heap.objs.size + 1) C s1.heap.objs.size)) (fun v H2 => v = .non ∧ Post X.K M H Q (.ref (s1.heap.objs.size + 1)) H2) E0 := by
    refine ⟨_, _, y, rfl, upd_same, fun dd od h1 h2 => ⟨rfl, ?_⟩⟩
    have n1 : H1 dd = none := by rw [upd_ne h2] at h1; exact h1
    have kq : ∀ b o, H1 b = some o → upd (upd (upd H1 (s1.heap.objs.size + 1) (XO (s1.heap.objs.size + 1) C s1.heap.objs.size)) dd (.frz od (.xd [(f, y)]))) (s1.heap.objs.size + 1) (YO (s1.heap.objs.size + 1) C s1.heap.objs.size dd) b = some o := fun b o z => by
      rw [upd_ne (ne_of_none z nx), upd_ne (ne_of_none z n1), upd_ne (ne_of_none z nx)]; exact z
    have ex : Ext H1 _ := ⟨fun b xs z => kq b _ z, fun b o u z => kq b _ z⟩
    refine ⟨.exc C f [d], M1, f1.trans fun b o n z => ⟨kq b o z, n⟩, ?_, rm1.keep kq, q⟩
    exact dat_exc.mpr ⟨_, _, _, [y], rfl, upd_same, .inr ⟨_, dd, od, y, rfl, rfl, by rw [upd_ne h2, upd_same]⟩, Dats.one (Dat.mono ex _ _ dy)⟩
  have r2 : Vals [V.ref (s1.heap.objs.size + 1), y] [Value.ref (s1.heap.objs.size + 1), u] := .cons rfl (.cons ry .nil)
  have hl : ([Value.ref (s1.heap.objs.size + 1), u] ++ []).length = ps.length := by
    have e := r2.length
    rw [F.len _ _ _ _ hsp] at e
    simpa using e.symm
  have hbt := hb { s1 with heap := (s1.heap.push (⟨.type "tuple", none, .seq [u].toArray, #[]⟩ : Obj)).push (K10.xObj C s1.heap.objs.size) } [Value.ref (s1.heap.objs.size + 1), u] I2.kIn hl
  rw [List.append_nil] at hbt
  have hq := F.run _ X.stack _ _ ⟨[Value.ref (s1.heap.objs.size + 1), u], []⟩ [Value.ref (s1.heap.objs.size + 1), u] _ _ E0 (hr.make C [u] []) (I2.env0.make C [u] []) hbt r2 hsp
  obtain ⟨hh, g, dr, tk, os⟩ := s1
  refine wpAny_call (K10.init_core I1.kIn Z.tt Z.ca Z.ty hi hf (by rw [sizeLine_eq]; simp) (codeAny_mono hq fun r s' hq' => ?_))
  cases r with
  | error e => exact hq'.elim
  | ok fl =>
    cases fl with
    | ret u' =>
      obtain ⟨v, H', I3, rv', ev, q3⟩ := I2.after hq'
      subst ev
      exact ⟨rv', ⟨V.ref (hh.objs.size + 1), H', I3, rfl, q3⟩⟩
    | next => exact False.elim hq'
    | brk => exact False.elim hq'
    | cont => exact False.elim hq'
end
section
variable {X : Cx}
theorem exc_inst {P : Program} {w : World} {h : Heap} {H : Hp} {a C : Addr} {o : Obj} {u : HO} {nm : Str} {xs : List V} (ok : HOk P w H h) (ha : H a = some (.frz o u)) (x : Xo H C nm o xs) : ∃ o od, PySem.W.InstAt h a o C od := by
  obtain ⟨ho, _⟩ := (show ObjOk P w H h a (.frz o u) from ok a _ ha)
  rcases x with ⟨_, t, rfl⟩ | ⟨t, dx, od, vx, _, rfl, hd⟩
  · exact ⟨_, none, ho, rfl, rfl, trivial⟩
  · obtain ⟨hd', _⟩ := (show ObjOk P w H h dx (.frz od (.xd [(nm, vx)])) from ok dx _ hd)
    exact ⟨_, some od, ho, rfl, rfl, hd'⟩
def rIsE (K : PySem.W.Frag) : List D → Mp → DK → Prop := fun ds M Q => ∃ C nm es b, K10.XC K C ∧ ((∃ B, ds = [.exc C nm es, .ref B] ∧ PySem.W.kitOne K (.ref C) (.ref B) = some b) ∨ (∃ n, ds = [.exc C nm es, .ty n] ∧ PySem.W.kitOne K (.ref C) (.type n) = some b)) ∧ Q (.bl b) M
theorem c_isE : Call3 X (.builtin "isinstance") (rIsE X.K) := by
  constructor
  intro pins s σ H M xs ds us Q I rm rs dx ⟨C, nm, es, b, Z, hk, q⟩
  have fin : ∀ tk, EP X pins σ (Post X.K M H Q) (.bool b) { s with toks := tk } := fun tk => ⟨.bl b, H, I.tok tk, rfl, post_self rm (dat_bl.mpr rfl) q⟩
  rcases hk with ⟨B, ei, hk⟩ | ⟨n, ei, hk⟩
  · subst ei
    obtain ⟨v, u, rfl, h1, h2⟩ := dats2 dx
    obtain ⟨a, o, _, xs, rfl, ha, xo, _⟩ := dat_exc.mp h1
    obtain rfl := dat_ref.mp h2
    obtain ⟨v', u', rfl, r1, r2⟩ := vals2 rs
    obtain rfl : v' = Value.ref a := r1
    obtain rfl : u' = Value.ref B := r2
    exact PySem.W.kia_one (K10.kitx_exc Z) I.kIn (exc_inst I.hok ha xo) hk (fun z => nomatch z) fin
  · subst ei
    obtain ⟨v, u, rfl, h1, h2⟩ := dats2 dx
    obtain ⟨a, o, _, xs, rfl, ha, xo, _⟩ := dat_exc.mp h1
    obtain rfl := dat_ty.mp h2
    obtain ⟨v', u', rfl, r1, r2⟩ := vals2 rs
    obtain rfl : v' = Value.ref a := r1
    obtain rfl : u' = Value.type n := r2
    exact PySem.W.kia_one (K10.kitx_exc Z) I.kIn (exc_inst I.hok ha xo) hk (fun z => nomatch z) fin
variable {e : Expr} {f : Str} {pos : Pos} {ta : TE3}
def tFldE (K : PySem.W.Frag) (ta : TE3) (f : Str) : TE3 := fun ρ M Q => ta ρ M fun x M1 => ∃ C d, x = .exc C f [d] ∧ XV K C ∧ PySem.W.findIn K (.ref C) f = some none ∧ Q d M1
theorem q_fldE (he : PE3 X e ta) (hb : attributeBase e f X.env (eval e X.env) = eval e X.env := by rfl) : PE3 X (.Attribute e f pos) (tFldE X.K ta f) := by
  constructor
  intro pins s σ H ρ M Q I r h
  refine attr_of hb (thn (he.run pins s σ H ρ M _ I r h) fun u s1 ⟨x, H1, I1, rx, dd, M1, f1, dx, rm1, C, d, ed, Z, hn, q⟩ => ?_)
  subst ed
  obtain ⟨a, o, u0, xs, rfl, ha, xo, dv⟩ := dat_exc.mp dx
  obtain rfl : u = Value.ref a := rx
  obtain ⟨ho, _⟩ := (show ObjOk X.prog X.w H1 s1.heap a (.frz o u0) from I1.hok a _ ha)
  rcases xo with ⟨rfl, _⟩ | ⟨t, dx, od, vx, rfl, rfl, hd⟩
  · cases dv.length
  · obtain ⟨hd', mA, nA, rA⟩ := (show ObjOk X.prog X.w H1 s1.heap dx (.frz od (.xd [(f, vx)])) from I1.hok dx _ hd)
    obtain ⟨od', hod, hl⟩ := lookIn_ns nA
    rw [hd'] at hod
    cases hod
    have r0 := rA f
    simp only [List.lookup, beq_self_eq_true] at r0
    obtain ⟨uv, hu, ru⟩ := RelO.some_of r0
    obtain ⟨v', vs', e1, d1, _⟩ := dats_cons.mp dv
    cases e1
    obtain ⟨hh, g, dr, tk, os⟩ := s1
    unfold getAttr
    refine wpAny_bind (wpAny_mkText ?_)
    refine K10.xv_by I1.kIn Z.xc ⟨ho, rfl, rfl, hd'⟩ (PySem.W.findObj_own Z.hd hn rfl (by rw [hl, hu])) (handed_of ru) ?_
    exact ⟨vx, H1, I1.tok _, ru, d, M1, f1, d1, rm1, q⟩
end
end L3
namespace Pf
open PySem L2 L3

def top (i : Nat) : Stmt := PySem.Challenge.pw_nearland_k10_refusals.main.body.getD i (.Pass ⟨0, 0, 0, 0⟩)
abbrev s__law_nth : Stmt := top 9
abbrev s__law_kinds : Stmt := top 10
abbrev s__law_is : Stmt := top 11
abbrev s_law : Stmt := top 12
abbrev si_Twice : Stmt := inClass (top 4) 0
abbrev si_NoPlace : Stmt := inClass (top 5) 0
abbrev si_Stiff : Stmt := inClass (top 6) 0
abbrev si_Crossed : Stmt := inClass (top 7) 0
structure Ad where
  f__law_nth : Addr
  fd__law_nth : FuncData
  f__law_kinds : Addr
  fd__law_kinds : FuncData
  f__law_is : Addr
  fd__law_is : FuncData
  f_law : Addr
  fd_law : FuncData
  c_NearError : Addr
  c_NoNumber : Addr
  c_Flat : Addr
  c_Twice : Addr
  c_NoPlace : Addr
  c_Stiff : Addr
  c_Crossed : Addr
  i_Twice : Addr
  id_Twice : FuncData
  i_NoPlace : Addr
  id_NoPlace : FuncData
  i_Stiff : Addr
  id_Stiff : FuncData
  i_Crossed : Addr
  id_Crossed : FuncData
structure Txt (K : PySem.W.Frag) (mg : Str → Option Value) (t : Ad) : Prop where
  F__law_nth : Fun K "_law_nth" "_law_nth" s__law_nth t.f__law_nth t.fd__law_nth
  m__law_nth : mg "_law_nth" = some (.ref t.f__law_nth)
  F__law_kinds : Fun K "_law_kinds" "_law_kinds" s__law_kinds t.f__law_kinds t.fd__law_kinds
  m__law_kinds : mg "_law_kinds" = some (.ref t.f__law_kinds)
  F__law_is : Fun K "_law_is" "_law_is" s__law_is t.f__law_is t.fd__law_is
  m__law_is : mg "_law_is" = some (.ref t.f__law_is)
  F_law : Fun K "law" "law" s_law t.f_law t.fd_law
  m_law : mg "law" = some (.ref t.f_law)
  no_len : mg "len" = none
  no_isinstance : mg "isinstance" = none
  no_ValueError : mg "ValueError" = none
  no_range : mg "range" = none
  no_min : mg "min" = none
  no_max : mg "max" = none
  mc_NearError : mg "NearError" = some (.ref t.c_NearError)
  mc_NoNumber : mg "NoNumber" = some (.ref t.c_NoNumber)
  mc_Flat : mg "Flat" = some (.ref t.c_Flat)
  mc_Twice : mg "Twice" = some (.ref t.c_Twice)
  mc_NoPlace : mg "NoPlace" = some (.ref t.c_NoPlace)
  mc_Stiff : mg "Stiff" = some (.ref t.c_Stiff)
  mc_Crossed : mg "Crossed" = some (.ref t.c_Crossed)
  Z_NoNumber : K10.XC K t.c_NoNumber
  E_NoNumber : PySem.W.excIn K t.c_NoNumber K10.bmV "ValueError.__new__" = true
  ke_NoNumber : PySem.W.keepIn K (.ref t.c_NoNumber) = true
  kk_NoNumber_NoNumber : PySem.W.kitOne K (.ref t.c_NoNumber) (.ref t.c_NoNumber) = some true
  kk_NoNumber_Flat : PySem.W.kitOne K (.ref t.c_NoNumber) (.ref t.c_Flat) = some false
  kk_NoNumber_Twice : PySem.W.kitOne K (.ref t.c_NoNumber) (.ref t.c_Twice) = some false
  kk_NoNumber_NoPlace : PySem.W.kitOne K (.ref t.c_NoNumber) (.ref t.c_NoPlace) = some false
  kk_NoNumber_Stiff : PySem.W.kitOne K (.ref t.c_NoNumber) (.ref t.c_Stiff) = some false
  kk_NoNumber_Crossed : PySem.W.kitOne K (.ref t.c_NoNumber) (.ref t.c_Crossed) = some false
  kk_NoNumber_N : PySem.W.kitOne K (.ref t.c_NoNumber) (.ref t.c_NearError) = some true
  kk_NoNumber_V : PySem.W.kitOne K (.ref t.c_NoNumber) (.type "ValueError") = some true
  Z_Flat : K10.XC K t.c_Flat
  E_Flat : PySem.W.excIn K t.c_Flat K10.bmV "ValueError.__new__" = true
  ke_Flat : PySem.W.keepIn K (.ref t.c_Flat) = true
  kk_Flat_NoNumber : PySem.W.kitOne K (.ref t.c_Flat) (.ref t.c_NoNumber) = some false
  kk_Flat_Flat : PySem.W.kitOne K (.ref t.c_Flat) (.ref t.c_Flat) = some true
  kk_Flat_Twice : PySem.W.kitOne K (.ref t.c_Flat) (.ref t.c_Twice) = some false
  kk_Flat_NoPlace : PySem.W.kitOne K (.ref t.c_Flat) (.ref t.c_NoPlace) = some false
  kk_Flat_Stiff : PySem.W.kitOne K (.ref t.c_Flat) (.ref t.c_Stiff) = some false
  kk_Flat_Crossed : PySem.W.kitOne K (.ref t.c_Flat) (.ref t.c_Crossed) = some false
  kk_Flat_N : PySem.W.kitOne K (.ref t.c_Flat) (.ref t.c_NearError) = some true
  kk_Flat_V : PySem.W.kitOne K (.ref t.c_Flat) (.type "ValueError") = some true
  Z_Twice : K10.XC K t.c_Twice
  V_Twice : XV K t.c_Twice
  FI_Twice : Fun K "__init__" "Twice.__init__" si_Twice t.i_Twice t.id_Twice
  in_Twice : PySem.W.findIn K (.ref t.c_Twice) "__init__" = some (some (.ref t.i_Twice))
  fn_Twice : PySem.W.isFn K (.ref t.i_Twice) = true
  na_Twice : PySem.W.findIn K (.ref t.c_Twice) "place" = some none
  kk_Twice_NoNumber : PySem.W.kitOne K (.ref t.c_Twice) (.ref t.c_NoNumber) = some false
  kk_Twice_Flat : PySem.W.kitOne K (.ref t.c_Twice) (.ref t.c_Flat) = some false
  kk_Twice_Twice : PySem.W.kitOne K (.ref t.c_Twice) (.ref t.c_Twice) = some true
  kk_Twice_NoPlace : PySem.W.kitOne K (.ref t.c_Twice) (.ref t.c_NoPlace) = some false
  kk_Twice_Stiff : PySem.W.kitOne K (.ref t.c_Twice) (.ref t.c_Stiff) = some false
  kk_Twice_Crossed : PySem.W.kitOne K (.ref t.c_Twice) (.ref t.c_Crossed) = some false
  kk_Twice_N : PySem.W.kitOne K (.ref t.c_Twice) (.ref t.c_NearError) = some true
  kk_Twice_V : PySem.W.kitOne K (.ref t.c_Twice) (.type "ValueError") = some true
  Z_NoPlace : K10.XC K t.c_NoPlace
  V_NoPlace : XV K t.c_NoPlace
  FI_NoPlace : Fun K "__init__" "NoPlace.__init__" si_NoPlace t.i_NoPlace t.id_NoPlace
  in_NoPlace : PySem.W.findIn K (.ref t.c_NoPlace) "__init__" = some (some (.ref t.i_NoPlace))
  fn_NoPlace : PySem.W.isFn K (.ref t.i_NoPlace) = true
  na_NoPlace : PySem.W.findIn K (.ref t.c_NoPlace) "place" = some none
  kk_NoPlace_NoNumber : PySem.W.kitOne K (.ref t.c_NoPlace) (.ref t.c_NoNumber) = some false
  kk_NoPlace_Flat : PySem.W.kitOne K (.ref t.c_NoPlace) (.ref t.c_Flat) = some false
  kk_NoPlace_Twice : PySem.W.kitOne K (.ref t.c_NoPlace) (.ref t.c_Twice) = some false
  kk_NoPlace_NoPlace : PySem.W.kitOne K (.ref t.c_NoPlace) (.ref t.c_NoPlace) = some true
  kk_NoPlace_Stiff : PySem.W.kitOne K (.ref t.c_NoPlace) (.ref t.c_Stiff) = some false
  kk_NoPlace_Crossed : PySem.W.kitOne K (.ref t.c_NoPlace) (.ref t.c_Crossed) = some false
  kk_NoPlace_N : PySem.W.kitOne K (.ref t.c_NoPlace) (.ref t.c_NearError) = some true
  kk_NoPlace_V : PySem.W.kitOne K (.ref t.c_NoPlace) (.type "ValueError") = some true
  Z_Stiff : K10.XC K t.c_Stiff
  V_Stiff : XV K t.c_Stiff
  FI_Stiff : Fun K "__init__" "Stiff.__init__" si_Stiff t.i_Stiff t.id_Stiff
  in_Stiff : PySem.W.findIn K (.ref t.c_Stiff) "__init__" = some (some (.ref t.i_Stiff))
  fn_Stiff : PySem.W.isFn K (.ref t.i_Stiff) = true
  na_Stiff : PySem.W.findIn K (.ref t.c_Stiff) "side" = some none
  kk_Stiff_NoNumber : PySem.W.kitOne K (.ref t.c_Stiff) (.ref t.c_NoNumber) = some false
  kk_Stiff_Flat : PySem.W.kitOne K (.ref t.c_Stiff) (.ref t.c_Flat) = some false
  kk_Stiff_Twice : PySem.W.kitOne K (.ref t.c_Stiff) (.ref t.c_Twice) = some false
  kk_Stiff_NoPlace : PySem.W.kitOne K (.ref t.c_Stiff) (.ref t.c_NoPlace) = some false
  kk_Stiff_Stiff : PySem.W.kitOne K (.ref t.c_Stiff) (.ref t.c_Stiff) = some true
  kk_Stiff_Crossed : PySem.W.kitOne K (.ref t.c_Stiff) (.ref t.c_Crossed) = some false
  kk_Stiff_N : PySem.W.kitOne K (.ref t.c_Stiff) (.ref t.c_NearError) = some true
  kk_Stiff_V : PySem.W.kitOne K (.ref t.c_Stiff) (.type "ValueError") = some true
  Z_Crossed : K10.XC K t.c_Crossed
  V_Crossed : XV K t.c_Crossed
  FI_Crossed : Fun K "__init__" "Crossed.__init__" si_Crossed t.i_Crossed t.id_Crossed
  in_Crossed : PySem.W.findIn K (.ref t.c_Crossed) "__init__" = some (some (.ref t.i_Crossed))
  fn_Crossed : PySem.W.isFn K (.ref t.i_Crossed) = true
  na_Crossed : PySem.W.findIn K (.ref t.c_Crossed) "fault" = some none
  kk_Crossed_NoNumber : PySem.W.kitOne K (.ref t.c_Crossed) (.ref t.c_NoNumber) = some false
  kk_Crossed_Flat : PySem.W.kitOne K (.ref t.c_Crossed) (.ref t.c_Flat) = some false
  kk_Crossed_Twice : PySem.W.kitOne K (.ref t.c_Crossed) (.ref t.c_Twice) = some false
  kk_Crossed_NoPlace : PySem.W.kitOne K (.ref t.c_Crossed) (.ref t.c_NoPlace) = some false
  kk_Crossed_Stiff : PySem.W.kitOne K (.ref t.c_Crossed) (.ref t.c_Stiff) = some false
  kk_Crossed_Crossed : PySem.W.kitOne K (.ref t.c_Crossed) (.ref t.c_Crossed) = some true
  kk_Crossed_N : PySem.W.kitOne K (.ref t.c_Crossed) (.ref t.c_NearError) = some true
  kk_Crossed_V : PySem.W.kitOne K (.ref t.c_Crossed) (.type "ValueError") = some true
theorem sci_Twice : FnScope ["self", "place"] ["self", "place"] (defScope si_Twice) := ⟨rfl, rfl, rfl, by decide +kernel, rfl, by decide +kernel, by decide +kernel⟩
theorem sci_NoPlace : FnScope ["self", "place"] ["self", "place"] (defScope si_NoPlace) := ⟨rfl, rfl, rfl, by decide +kernel, rfl, by decide +kernel, by decide +kernel⟩
theorem sci_Stiff : FnScope ["self", "side"] ["self", "side"] (defScope si_Stiff) := ⟨rfl, rfl, rfl, by decide +kernel, rfl, by decide +kernel, by decide +kernel⟩
theorem sci_Crossed : FnScope ["self", "fault"] ["self", "fault"] (defScope si_Crossed) := ⟨rfl, rfl, rfl, by decide +kernel, rfl, by decide +kernel, by decide +kernel⟩
theorem sc__law_nth : FnScope ["_law_script", "_law_k"] ["_law_script", "_law_k"] (defScope s__law_nth) := ⟨rfl, rfl, rfl, by decide +kernel, rfl, by decide +kernel, by decide +kernel⟩
theorem sc__law_kinds : FnScope ["_law_e", "_law_some"] ["_law_e"] (defScope s__law_kinds) := ⟨rfl, rfl, rfl, by decide +kernel, rfl, by decide +kernel, by decide +kernel⟩
theorem sc__law_is : FnScope ["_law_e", "_law_which"] ["_law_e", "_law_which"] (defScope s__law_is) := ⟨rfl, rfl, rfl, by decide +kernel, rfl, by decide +kernel, by decide +kernel⟩
theorem sc_law : FnScope ["_law_script", "_law_cells", "_law_one", "_law_other", "_law_side", "_law_some", "_law_told", "_law_first", "_law_second", "_law_third", "_law_fourth"] ["_law_script"] (defScope s_law) := ⟨rfl, rfl, rfl, by decide +kernel, rfl, by decide +kernel, by decide +kernel⟩

section
variable {P : Program} {w : World} {K : PySem.W.Frag} {mg : Str → Option Value} {base : Heap} {t : Ad}
theorem bdi_Twice (T : Txt K mg t) : Binds K t.id_Twice ["self", "place"] [] := T.FI_Twice.binds fun _ _ _ _ _ _ us hl => match us, hl with | [_, _], _ => rfl
theorem init_Twice (T : Txt K mg t) : FnOk P w K mg base CX0 1 t.i_Twice t.id_Twice ["self", "place"] (spI t.c_Twice "place") := by
  refine T.FI_Twice.ok sci_Twice (fun vs H Q E h => by obtain ⟨_, _, _, rfl, _⟩ := h; rfl) fun cdv A outer s H vs Q E hr h => ?_
  obtain ⟨x, a, y, rfl, hx, q⟩ := h
  exact ⟨_, pss_one (ps_fldX (pv 0) (pv 1) rfl), ⟨y, rfl, V.ref x, rfl, x, _, _, rfl, hx, T.V_Twice, NoAttr.taker T.na_Twice, q⟩⟩
theorem bdi_NoPlace (T : Txt K mg t) : Binds K t.id_NoPlace ["self", "place"] [] := T.FI_NoPlace.binds fun _ _ _ _ _ _ us hl => match us, hl with | [_, _], _ => rfl
theorem init_NoPlace (T : Txt K mg t) : FnOk P w K mg base CX0 1 t.i_NoPlace t.id_NoPlace ["self", "place"] (spI t.c_NoPlace "place") := by
  refine T.FI_NoPlace.ok sci_NoPlace (fun vs H Q E h => by obtain ⟨_, _, _, rfl, _⟩ := h; rfl) fun cdv A outer s H vs Q E hr h => ?_
  obtain ⟨x, a, y, rfl, hx, q⟩ := h
  exact ⟨_, pss_one (ps_fldX (pv 0) (pv 1) rfl), ⟨y, rfl, V.ref x, rfl, x, _, _, rfl, hx, T.V_NoPlace, NoAttr.taker T.na_NoPlace, q⟩⟩
theorem bdi_Stiff (T : Txt K mg t) : Binds K t.id_Stiff ["self", "side"] [] := T.FI_Stiff.binds fun _ _ _ _ _ _ us hl => match us, hl with | [_, _], _ => rfl
theorem init_Stiff (T : Txt K mg t) : FnOk P w K mg base CX0 1 t.i_Stiff t.id_Stiff ["self", "side"] (spI t.c_Stiff "side") := by
  refine T.FI_Stiff.ok sci_Stiff (fun vs H Q E h => by obtain ⟨_, _, _, rfl, _⟩ := h; rfl) fun cdv A outer s H vs Q E hr h => ?_
  obtain ⟨x, a, y, rfl, hx, q⟩ := h
  exact ⟨_, pss_one (ps_fldX (pv 0) (pv 1) rfl), ⟨y, rfl, V.ref x, rfl, x, _, _, rfl, hx, T.V_Stiff, NoAttr.taker T.na_Stiff, q⟩⟩
theorem bdi_Crossed (T : Txt K mg t) : Binds K t.id_Crossed ["self", "fault"] [] := T.FI_Crossed.binds fun _ _ _ _ _ _ us hl => match us, hl with | [_, _], _ => rfl
theorem init_Crossed (T : Txt K mg t) : FnOk P w K mg base CX0 1 t.i_Crossed t.id_Crossed ["self", "fault"] (spI t.c_Crossed "fault") := by
  refine T.FI_Crossed.ok sci_Crossed (fun vs H Q E h => by obtain ⟨_, _, _, rfl, _⟩ := h; rfl) fun cdv A outer s H vs Q E hr h => ?_
  obtain ⟨x, a, y, rfl, hx, q⟩ := h
  exact ⟨_, pss_one (ps_fldX (pv 0) (pv 1) rfl), ⟨y, rfl, V.ref x, rfl, x, _, _, rfl, hx, T.V_Crossed, NoAttr.taker T.na_Crossed, q⟩⟩
theorem bd__law_nth (T : Txt K mg t) : Binds K t.fd__law_nth ["_law_script", "_law_k"] [] := T.F__law_nth.binds fun _ _ _ _ _ _ us hl => match us, hl with | [_, _], _ => rfl
@[irreducible] def nth (ns : List Int) (k : Int) : Int := ns.getD k.toNat 0
def S__law_nth : SpP := fun ds Q => ∃ (ns : List Int) (k : Int), ds = [.frl (ns.map L3.D.int), .int k] ∧ 0 ≤ k ∧ Q (.int (nth ns k))
theorem ok__law_nth (T : Txt K mg t) : FnOk P w K mg base CX0 1 t.f__law_nth t.fd__law_nth ["_law_script", "_law_k"] (spP K S__law_nth) := by
  refine fnP T.F__law_nth sc__law_nth (fun ds Q h => by (first | (obtain ⟨_, rfl, _⟩ := h; rfl) | (obtain ⟨_, _, rfl, _⟩ := h; rfl) | (obtain ⟨_, _, _, rfl, _⟩ := h; rfl) | (obtain ⟨_, _, _, _, rfl, _⟩ := h; rfl) | (obtain ⟨_, _, _, _, _, rfl, _⟩ := h; rfl) | (obtain ⟨_, _, _, _, _, _, rfl, _⟩ := h; rfl) | (obtain ⟨_, _, _, _, _, _, _, rfl, _⟩ := h; rfl))) (fun cdv A outer s H hr => ?_)
  have hu := hr.units
  refine ⟨_, (b_one (s_ret (q_if (k_cmp (o_ltD hu) (q_var 1) (q_blt c_len (by rfl) T.no_len boot3_len (a_cons (q_var 0) a_nil)) (nomark _)) (q_ix (q_var 0) (q_var 1)) q_int))), fun ds Q h => ?_⟩
  obtain ⟨ns, k, rfl, hk, h⟩ := h
  walk_at "rd"
  refine ⟨_, _, rfl, .inr (.inl rfl), ?_⟩
  walk_at "rd"
  refine ite2 (fun c => ?_) (fun c => ?_)
  · have c : k < ((ns.map L3.D.int).length : Int) := of_decide_eq_true c
    rw [List.length_map] at c
    have hlt : k.toNat < ns.length := by omega
    walk_at "rd"
    refine ⟨_, k, .int (nth ns k), .inr (.inl rfl), rfl, ?_, h⟩
    have e : k = ((k.toNat : Nat) : Int) := by omega
    rw [e]
    refine atI_nat ?_
    unfold nth
    rw [List.getElem?_map, List.getD_eq_getElem?_getD, List.getElem?_eq_getElem (by omega), ← e, List.getElem?_eq_getElem hlt]
    simp
  · have c : ¬ k < ((ns.map L3.D.int).length : Int) := fun z => c (decide_eq_true z)
    rw [List.length_map] at c
    have e : nth ns k = 0 := by
      unfold nth
      rw [List.getD_eq_getElem?_getD, List.getElem?_eq_none (by omega)]
      rfl
    rw [e] at h
    exact h
theorem bd__law_kinds (T : Txt K mg t) : Binds K t.fd__law_kinds ["_law_e"] [] := T.F__law_kinds.binds fun _ _ _ _ _ _ us hl => match us, hl with | [_], _ => rfl
def cs (t : Ad) : List Addr := [t.c_NoNumber, t.c_Flat, t.c_Twice, t.c_NoPlace, t.c_Stiff, t.c_Crossed]
def kinds (i : Nat) : List L3.D := [.bl (decide (0 = i)), .bl (decide (1 = i)), .bl (decide (2 = i)), .bl (decide (3 = i)), .bl (decide (4 = i)), .bl (decide (5 = i))]
theorem cs_lt {t : Ad} {i : Nat} {C : Addr} (h : (cs t)[i]? = some C) : i < 6 := (List.getElem?_eq_some_iff.mp h).1
theorem cs_xc (T : Txt K mg t) {i : Nat} {C : Addr} (h : (cs t)[i]? = some C) : K10.XC K C := by
  match i, cs_lt h with
  | 0, _ => cases h; exact T.Z_NoNumber
  | 1, _ => cases h; exact T.Z_Flat
  | 2, _ => cases h; exact T.Z_Twice
  | 3, _ => cases h; exact T.Z_NoPlace
  | 4, _ => cases h; exact T.Z_Stiff
  | 5, _ => cases h; exact T.Z_Crossed
theorem cs_N (T : Txt K mg t) {i : Nat} {C : Addr} (h : (cs t)[i]? = some C) : PySem.W.kitOne K (.ref C) (.ref t.c_NearError) = some true ∧ PySem.W.kitOne K (.ref C) (.type "ValueError") = some true := by
  match i, cs_lt h with
  | 0, _ => cases h; exact ⟨T.kk_NoNumber_N, T.kk_NoNumber_V⟩
  | 1, _ => cases h; exact ⟨T.kk_Flat_N, T.kk_Flat_V⟩
  | 2, _ => cases h; exact ⟨T.kk_Twice_N, T.kk_Twice_V⟩
  | 3, _ => cases h; exact ⟨T.kk_NoPlace_N, T.kk_NoPlace_V⟩
  | 4, _ => cases h; exact ⟨T.kk_Stiff_N, T.kk_Stiff_V⟩
  | 5, _ => cases h; exact ⟨T.kk_Crossed_N, T.kk_Crossed_V⟩
structure Kit6 (K : PySem.W.Frag) (t : Ad) (C : Addr) (i : Nat) : Prop where
  k0 : PySem.W.kitOne K (.ref C) (.ref t.c_NoNumber) = some (decide (0 = i))
  k1 : PySem.W.kitOne K (.ref C) (.ref t.c_Flat) = some (decide (1 = i))
  k2 : PySem.W.kitOne K (.ref C) (.ref t.c_Twice) = some (decide (2 = i))
  k3 : PySem.W.kitOne K (.ref C) (.ref t.c_NoPlace) = some (decide (3 = i))
  k4 : PySem.W.kitOne K (.ref C) (.ref t.c_Stiff) = some (decide (4 = i))
  k5 : PySem.W.kitOne K (.ref C) (.ref t.c_Crossed) = some (decide (5 = i))
theorem cs_kit (T : Txt K mg t) {i : Nat} {C : Addr} (h : (cs t)[i]? = some C) : Kit6 K t C i := by
  match i, cs_lt h with
  | 0, _ => cases h; exact ⟨T.kk_NoNumber_NoNumber, T.kk_NoNumber_Flat, T.kk_NoNumber_Twice, T.kk_NoNumber_NoPlace, T.kk_NoNumber_Stiff, T.kk_NoNumber_Crossed⟩
  | 1, _ => cases h; exact ⟨T.kk_Flat_NoNumber, T.kk_Flat_Flat, T.kk_Flat_Twice, T.kk_Flat_NoPlace, T.kk_Flat_Stiff, T.kk_Flat_Crossed⟩
  | 2, _ => cases h; exact ⟨T.kk_Twice_NoNumber, T.kk_Twice_Flat, T.kk_Twice_Twice, T.kk_Twice_NoPlace, T.kk_Twice_Stiff, T.kk_Twice_Crossed⟩
  | 3, _ => cases h; exact ⟨T.kk_NoPlace_NoNumber, T.kk_NoPlace_Flat, T.kk_NoPlace_Twice, T.kk_NoPlace_NoPlace, T.kk_NoPlace_Stiff, T.kk_NoPlace_Crossed⟩
  | 4, _ => cases h; exact ⟨T.kk_Stiff_NoNumber, T.kk_Stiff_Flat, T.kk_Stiff_Twice, T.kk_Stiff_NoPlace, T.kk_Stiff_Stiff, T.kk_Stiff_Crossed⟩
  | 5, _ => cases h; exact ⟨T.kk_Crossed_NoNumber, T.kk_Crossed_Flat, T.kk_Crossed_Twice, T.kk_Crossed_NoPlace, T.kk_Crossed_Stiff, T.kk_Crossed_Crossed⟩
theorem le_put {M M' : Mp} {p : Addr} {o : MO} (h : Le M M') : Le (updM M p o) (updM M' p o) := fun c u e => by
  by_cases k : c = p
  · subst k
    rw [updM_same] at e ⊢
    exact e
  · rw [updM_ne k] at e ⊢
    exact h c u e
theorem le_free {M M' : Mp} {p : Addr} (h : Le M M') (e : M' p = none) : M p = none := by
  cases k : M p with
  | none => rfl
  | some o => rw [h p o k] at e; cases e
theorem kinds_plain (i : Nat) : (kinds i).all (plain 9) = true := by simp [kinds, L3.plain]
def S__law_kinds (t : Ad) : Sp3 := fun ds M Q => ∃ (C : Addr) (nm : Str) (es : List L3.D) (i : Nat), ds = [.exc C nm es] ∧ (cs t)[i]? = some C ∧ ∀ p, M p = none → Q (.ref p) (updM M p (.lst (kinds i)))
theorem ok__law_kinds (T : Txt K mg t) : FnOk P w K mg base CX0 1 t.f__law_kinds t.fd__law_kinds ["_law_e"] (sp3 K (S__law_kinds t)) := by
  refine fn3 T.F__law_kinds sc__law_kinds (fun ds M Q h => by (first | (obtain ⟨_, rfl, _⟩ := h; rfl) | (obtain ⟨_, _, rfl, _⟩ := h; rfl) | (obtain ⟨_, _, _, rfl, _⟩ := h; rfl) | (obtain ⟨_, _, _, _, rfl, _⟩ := h; rfl) | (obtain ⟨_, _, _, _, _, rfl, _⟩ := h; rfl) | (obtain ⟨_, _, _, _, _, _, rfl, _⟩ := h; rfl) | (obtain ⟨_, _, _, _, _, _, _, rfl, _⟩ := h; rfl))) (fun cdv A outer s H hr => ?_)
  have hu := hr.units
  refine ⟨_, (b_cons (s_set (i := 1) sc__law_kinds.nd rfl (Or.inl rfl) (q_lst (a_cons (q_blt c_isE (by rfl) T.no_isinstance boot3_isinstance (a_cons (q_var 0) (a_cons (q_cls (by rfl) T.mc_NoNumber) a_nil))) (a_cons (q_blt c_isE (by rfl) T.no_isinstance boot3_isinstance (a_cons (q_var 0) (a_cons (q_cls (by rfl) T.mc_Flat) a_nil))) (a_cons (q_blt c_isE (by rfl) T.no_isinstance boot3_isinstance (a_cons (q_var 0) (a_cons (q_cls (by rfl) T.mc_Twice) a_nil))) a_nil)))))
      (b_one (s_ret (q_bin o_cat (q_var 1) (q_lst (a_cons (q_blt c_isE (by rfl) T.no_isinstance boot3_isinstance (a_cons (q_var 0) (a_cons (q_cls (by rfl) T.mc_NoPlace) a_nil))) (a_cons (q_blt c_isE (by rfl) T.no_isinstance boot3_isinstance (a_cons (q_var 0) (a_cons (q_cls (by rfl) T.mc_Stiff) a_nil))) (a_cons (q_blt c_isE (by rfl) T.no_isinstance boot3_isinstance (a_cons (q_var 0) (a_cons (q_cls (by rfl) T.mc_Crossed) a_nil))) a_nil)))))))), fun ds M Q h => ?_⟩
  obtain ⟨C, nm, es, i, rfl, hC, h⟩ := h
  have z := cs_xc T hC
  have k := cs_kit T hC
  walk_at "rd"
  refine ⟨C, nm, es, _, z, .inl ⟨_, rfl, k.k0⟩, ?_⟩
  walk_at "rd"
  refine ⟨C, nm, es, _, z, .inl ⟨_, rfl, k.k1⟩, ?_⟩
  walk_at "rd"
  refine ⟨C, nm, es, _, z, .inl ⟨_, rfl, k.k2⟩, ?_⟩
  walk_at "rd"
  intro p0 h0
  walk_at "rd"
  refine ⟨C, nm, es, _, z, .inl ⟨_, rfl, k.k3⟩, ?_⟩
  walk_at "rd"
  refine ⟨C, nm, es, _, z, .inl ⟨_, rfl, k.k4⟩, ?_⟩
  walk_at "rd"
  refine ⟨C, nm, es, _, z, .inl ⟨_, rfl, k.k5⟩, ?_⟩
  walk_at "rd"
  intro p1 h1
  have m1 : updM (updM M p0 (.lst [.bl (decide (0 = i)), .bl (decide (1 = i)), .bl (decide (2 = i))])) p1 (.lst [.bl (decide (3 = i)), .bl (decide (4 = i)), .bl (decide (5 = i))]) p0 = some (.lst [.bl (decide (0 = i)), .bl (decide (1 = i)), .bl (decide (2 = i))]) := updM_old updM_same h1
  refine ⟨p0, p1, _, _, rfl, rfl, m1, updM_same, by show 6 ≤ sizeLine; decide, fun p h2 => ?_⟩
  have le : Le M (updM (updM M p0 (.lst [.bl (decide (0 = i)), .bl (decide (1 = i)), .bl (decide (2 = i))])) p1 (.lst [.bl (decide (3 = i)), .bl (decide (4 = i)), .bl (decide (5 = i))])) := (Le.new h0).trans (Le.new h1)
  exact Hold.mk ⟨_, le_put le, h p (le_free le h2)⟩
theorem bd__law_is (T : Txt K mg t) : Binds K t.fd__law_is ["_law_e", "_law_which"] [] := T.F__law_is.binds fun _ _ _ _ _ _ us hl => match us, hl with | [_, _], _ => rfl
def S__law_is (t : Ad) : SpP := fun ds Q => ∃ (C : Addr) (nm : Str) (es : List L3.D) (i : Nat), ds = [.exc C nm es, .int i] ∧ (cs t)[i]? = some C ∧ Q (.bl true)
theorem ok__law_is (T : Txt K mg t) : FnOk P w K mg base CX0 2 t.f__law_is t.fd__law_is ["_law_e", "_law_which"] (spP K (S__law_is t)) := by
  refine fnP T.F__law_is sc__law_is (fun ds Q h => by (first | (obtain ⟨_, rfl, _⟩ := h; rfl) | (obtain ⟨_, _, rfl, _⟩ := h; rfl) | (obtain ⟨_, _, _, rfl, _⟩ := h; rfl) | (obtain ⟨_, _, _, _, rfl, _⟩ := h; rfl) | (obtain ⟨_, _, _, _, _, rfl, _⟩ := h; rfl) | (obtain ⟨_, _, _, _, _, _, rfl, _⟩ := h; rfl) | (obtain ⟨_, _, _, _, _, _, _, rfl, _⟩ := h; rfl))) (fun cdv A outer s H hr => ?_)
  have hu := hr.units
  refine ⟨_, (b_cons (s_if (PW3.pt (k_or (k_not (k_val (q_blt c_isE (by rfl) T.no_isinstance boot3_isinstance (a_cons (q_var 0) (a_cons (q_cls (by rfl) T.mc_NearError) a_nil))))) (k_or1 (k_not (k_val (q_blt c_isE (by rfl) T.no_isinstance boot3_isinstance (a_cons (q_var 0) (a_cons (q_type (by rfl) T.no_ValueError boot3_ValueError) a_nil)))))))) (b_one (s_ret q_bl)) b_nil)
      (b_one (s_ret (q_cmp (o_eqL hu) (q_call (ok__law_kinds T) (hr.mono (by decide)) (by rfl) T.m__law_kinds T.F__law_kinds.kp (bd__law_kinds T) (a_cons (q_var 0) a_nil)) (q_lc (q_lcR (ys := ["_law_which"]) (fs := [1]) rfl (by show compChk (defScope s__law_is) ["_law_e", "_law_which"] _ _ _ _ = true; decide +kernel) (by rfl) T.no_range (a_cons q_int a_nil) (fun cl C s0 H0 ex => l_nil) (fun cl C s0 H0 ex => (q_cmp (o_eq hu) (q_var 0) (q_var 1) (nomark _))))) (nomark _))))), fun ds Q h => ?_⟩
  obtain ⟨C, nm, es, i, rfl, hC, h⟩ := h
  have z := cs_xc T hC
  have k := cs_N T hC
  walk_at "rd"
  refine ⟨C, nm, es, _, z, .inl ⟨_, rfl, k.1⟩, ?_⟩
  walk_at "rd"
  refine ⟨C, nm, es, _, z, .inr ⟨_, rfl, k.2⟩, ?_⟩
  walk_at "rd"
  refine ⟨C, nm, es, i, rfl, hC, fun p hp => ?_⟩
  walk_at "rd"
  refine Hold.mk (runLC_inv (fun j acc M4 => M4 = updM noM p (.lst (kinds i)) ∧ acc = (List.range j).map fun (a : Nat) => L3.D.bl ((a : Int) == (i : Int))) _ ?_ ?_ ⟨rfl, rfl⟩)
  · rintro j x acc M4 N hx ⟨rfl, rfl⟩ hN
    obtain ⟨hi, rfl⟩ := range_get hx
    refine ⟨trivial, ?_⟩
    walk_at "rd"
    exact hN _ _ ⟨rfl, by rw [List.range_succ, List.map_append, eqD_int]; rfl⟩
  rintro acc M4 ⟨rfl, rfl⟩
  refine ⟨trivial, fun q hq => ?_⟩
  refine ⟨p, q, _, _, rfl, rfl, updM_old updM_same hq, updM_same, kinds_plain i, ?_, ?_⟩
  · rw [List.all_eq_true]
    intro x hx
    obtain ⟨a, _, rfl⟩ := List.mem_map.mp hx
    rfl
  · have e : eqDs (kinds i) (List.map (fun (a : Nat) => L3.D.bl ((a : Int) == (i : Int))) (List.range 6)) = true := by
      match i, cs_lt hC with
      | 0, _ => decide +kernel
      | 1, _ => decide +kernel
      | 2, _ => decide +kernel
      | 3, _ => decide +kernel
      | 4, _ => decide +kernel
      | 5, _ => decide +kernel
    show Q (L3.D.bl (eqDs (kinds i) (List.map (fun (a : Nat) => L3.D.bl ((a : Int) == (i : Int))) (List.range 6))))
    rw [e]
    exact h
theorem bd_law (T : Txt K mg t) : Binds K t.fd_law ["_law_script"] [] := T.F_law.binds fun _ _ _ _ _ _ us hl => match us, hl with | [_], _ => rfl
abbrev S_law := S_lawOf
def Told (x : Str) (sd one e : L3.D) : Prop := e = .tup [.str x, sd, sd] ∨ e = .tup [.str x, sd] ∨ e = .tup [.str x, sd, one]
theorem ok_law (T : Txt K mg t) : FnOk P w K mg base CX0 3 t.f_law t.fd_law ["_law_script"] (spP K S_law) := by
  refine fnP T.F_law sc_law (fun ds Q h => by (first | (obtain ⟨_, rfl, _⟩ := h; rfl) | (obtain ⟨_, _, rfl, _⟩ := h; rfl) | (obtain ⟨_, _, _, rfl, _⟩ := h; rfl) | (obtain ⟨_, _, _, _, rfl, _⟩ := h; rfl) | (obtain ⟨_, _, _, _, _, rfl, _⟩ := h; rfl) | (obtain ⟨_, _, _, _, _, _, rfl, _⟩ := h; rfl) | (obtain ⟨_, _, _, _, _, _, _, rfl, _⟩ := h; rfl))) (fun cdv A outer s H hr => ?_)
  have hu := hr.units
  refine ⟨_, (b_cons (s_lc (j := 1) (q_lcR (ys := ["_law_script"]) (fs := [0]) rfl (by show compChk (defScope s_law) ["_law_script", "_law_cells", "_law_one", "_law_other", "_law_side", "_law_some", "_law_told", "_law_first", "_law_second", "_law_third", "_law_fourth"] _ _ _ _ = true; decide +kernel) (by rfl) T.no_range (a_cons q_int a_nil) (fun cl C s0 H0 ex => l_nil) (fun cl C s0 H0 ex => (q_bin o_add (q_bin o_sub (q_bin o_mod (q_callP (ok__law_nth T) (hr.mono (by decide)) (by rfl) T.m__law_nth T.F__law_nth.kp (bd__law_nth T) (a_cons (q_var 1) (a_cons (q_var 0) a_nil))) (q_bin o_sub (q_bin o_mul q_int (q_bin o_pow q_int q_int)) q_int)) (q_bin o_pow q_int q_int)) q_int))) sc_law.nd rfl (Or.inl rfl))
      (b_cons (s_set (i := 2) sc_law.nd rfl (Or.inl rfl) (q_tup (a_cons (q_blt (c_min2 rfl) (by rfl) T.no_min boot3_min (a_cons (q_ix (q_var 1) q_int) (a_cons (q_ix (q_var 1) q_int) a_nil))) (a_cons (q_ix (q_var 1) q_int) a_nil))))
      (b_cons (s_set (i := 3) sc_law.nd rfl (Or.inl rfl) (q_tup (a_cons (q_bin o_add (q_blt (c_max2 rfl) (by rfl) T.no_max boot3_max (a_cons (q_ix (q_var 1) q_int) (a_cons (q_ix (q_var 1) q_int) a_nil))) q_int) (a_cons (q_ix (q_var 1) q_int) a_nil))))
      (b_cons (s_set (i := 4) sc_law.nd rfl (Or.inl rfl) (q_tup (a_cons (q_var 2) (a_cons (q_var 3) a_nil))))
      (b_cons (s_set (i := 5) sc_law.nd rfl (Or.inl rfl) (q_ix (q_lst (a_cons q_str (a_cons q_str (a_cons q_str a_nil)))) (q_bin o_mod (q_callP (ok__law_nth T) (hr.mono (by decide)) (by rfl) T.m__law_nth T.F__law_nth.kp (bd__law_nth T) (a_cons (q_var 0) (a_cons q_int a_nil))) q_int)))
      (b_cons (s_set (i := 6) sc_law.nd rfl (Or.inl rfl) (q_tup (a_cons (q_var 5) (a_cons (q_var 4) (a_cons (q_var 4) a_nil)))))
      (b_cons (s_ifJ (k_cmp (o_eq hu) (q_var 5) q_str (nomark _)) (b_one (s_set (i := 6) sc_law.nd rfl (Or.inl rfl) (q_tup (a_cons (q_var 5) (a_cons (q_var 4) a_nil))))))
      (b_cons (s_ifJ (k_cmp (o_eq hu) (q_var 5) q_str (nomark _)) (b_one (s_set (i := 6) sc_law.nd rfl (Or.inl rfl) (q_tup (a_cons (q_var 5) (a_cons (q_var 4) (a_cons (q_var 2) a_nil)))))))
      (b_cons (s_if (PW3.pt (k_or (k_not (k_val (q_callP (ok__law_is T) (hr.mono (by decide)) (by rfl) T.m__law_is T.F__law_is.kp (bd__law_is T) (a_cons (q_exc0 T.E_NoNumber T.ke_NoNumber (by rfl) T.mc_NoNumber (a_cons q_str a_nil)) (a_cons q_int a_nil))))) (k_or1 (k_not (k_val (q_callP (ok__law_is T) (hr.mono (by decide)) (by rfl) T.m__law_is T.F__law_is.kp (bd__law_is T) (a_cons (q_exc0 T.E_Flat T.ke_Flat (by rfl) T.mc_Flat (a_cons q_str a_nil)) (a_cons q_int a_nil)))))))) (b_one (s_ret q_bl)) b_nil)
      (b_cons (s_set (i := 7) sc_law.nd rfl (Or.inl rfl) (q_exc1 T.V_Twice T.in_Twice T.fn_Twice (init_Twice T) (hr.mono (by decide)) (by rfl) T.mc_Twice (bdi_Twice T) (a_cons (q_var 2) a_nil)))
      (b_cons (s_set (i := 8) sc_law.nd rfl (Or.inl rfl) (q_exc1 T.V_NoPlace T.in_NoPlace T.fn_NoPlace (init_NoPlace T) (hr.mono (by decide)) (by rfl) T.mc_NoPlace (bdi_NoPlace T) (a_cons (q_var 3) a_nil)))
      (b_cons (s_set (i := 9) sc_law.nd rfl (Or.inl rfl) (q_exc1 T.V_Stiff T.in_Stiff T.fn_Stiff (init_Stiff T) (hr.mono (by decide)) (by rfl) T.mc_Stiff (bdi_Stiff T) (a_cons (q_var 4) a_nil)))
      (b_cons (s_set (i := 10) sc_law.nd rfl (Or.inl rfl) (q_exc1 T.V_Crossed T.in_Crossed T.fn_Crossed (init_Crossed T) (hr.mono (by decide)) (by rfl) T.mc_Crossed (bdi_Crossed T) (a_cons (q_var 6) a_nil)))
      (b_cons (s_if (PW3.pt (k_or (k_not (k_val (q_callP (ok__law_is T) (hr.mono (by decide)) (by rfl) T.m__law_is T.F__law_is.kp (bd__law_is T) (a_cons (q_var 7) (a_cons q_int a_nil))))) (k_or (k_not (k_val (q_callP (ok__law_is T) (hr.mono (by decide)) (by rfl) T.m__law_is T.F__law_is.kp (bd__law_is T) (a_cons (q_var 8) (a_cons q_int a_nil))))) (k_or (k_not (k_val (q_callP (ok__law_is T) (hr.mono (by decide)) (by rfl) T.m__law_is T.F__law_is.kp (bd__law_is T) (a_cons (q_var 9) (a_cons q_int a_nil))))) (k_or1 (k_not (k_val (q_callP (ok__law_is T) (hr.mono (by decide)) (by rfl) T.m__law_is T.F__law_is.kp (bd__law_is T) (a_cons (q_var 10) (a_cons q_int a_nil)))))))))) (b_one (s_ret q_bl)) b_nil)
      (b_one (s_ret (q_and (q_cmp (o_eq hu) (q_fldE (q_var 7)) (q_var 2) (nomark _)) (q_and (q_cmp (o_eq hu) (q_fldE (q_var 8)) (q_var 3) (nomark _)) (q_and (q_cmp (o_eq hu) (q_fldE (q_var 9)) (q_var 4) (nomark _)) (q_one (q_cmp (o_eq hu) (q_fldE (q_var 10)) (q_var 6) (nomark _)))))))))))))))))))))), fun ds Q h => ?_⟩
  obtain ⟨ns, rfl, hl, h⟩ := h
  walk_at "rd"
  refine Hold.mk (runLC_inv (fun i acc M4 => M4 = noM ∧ ∃ zs : List Int, zs.length = i ∧ acc = zs.map L3.D.int) _ ?_ ?_ ⟨rfl, [], rfl, rfl⟩)
  · rintro i x acc M4 N hx ⟨rfl, zs, hz, rfl⟩ hN
    obtain ⟨hi, rfl⟩ := range_get hx
    refine ⟨trivial, ?_⟩
    walk_at "rd"
    exact hN _ _ ⟨rfl, zs ++ [_], by simp [hz], by rw [List.map_append]; rfl⟩
  rintro acc M4 ⟨rfl, zs, hz, rfl⟩
  refine ⟨trivial, fun l hl0 => ?_⟩
  obtain ⟨a, b, c, d, rfl⟩ : ∃ a b c d, zs = [a, b, c, d] := by
    match zs, hz with
    | [a, b, c, d], _ => exact ⟨a, b, c, d, rfl⟩
  clear hz
  have m0 : updM noM l (.lst ([a, b, c, d].map L3.D.int)) l = some (.lst ([a, b, c, d].map L3.D.int)) := updM_same
  generalize updM noM l (.lst ([a, b, c, d].map L3.D.int)) = M0 at *
  walk_at "rd"
  refine ⟨_, _, _, .inr (.inr ⟨l, rfl, m0⟩), rfl, rfl, ?_⟩
  walk_at "rd"
  refine ⟨_, _, _, .inr (.inr ⟨l, rfl, m0⟩), rfl, rfl, ?_⟩
  walk_at "rd"
  refine ⟨_, _, _, .inr (.inr ⟨l, rfl, m0⟩), rfl, rfl, ?_⟩
  walk_at "rd"
  refine ⟨_, _, _, .inr (.inr ⟨l, rfl, m0⟩), rfl, rfl, ?_⟩
  walk_at "rd"
  refine ⟨_, _, _, .inr (.inr ⟨l, rfl, m0⟩), rfl, rfl, ?_⟩
  walk_at "rd"
  refine ⟨_, _, _, .inr (.inr ⟨l, rfl, m0⟩), rfl, rfl, ?_⟩
  walk_at "rd"
  intro p hp
  walk_at "rd"
  obtain ⟨x, hx⟩ : ∃ x : Str, atI [L3.D.str (Str.ofString "alien"), .str (Str.ofString "through"), .str (Str.ofString "crossed")] (nth ns 4 % 3) = some (.str x) := by
    have k : nth ns 4 % 3 = 0 ∨ nth ns 4 % 3 = 1 ∨ nth ns 4 % 3 = 2 := by omega
    rcases k with k | k | k <;> rw [k] <;> exact ⟨_, rfl⟩
  refine ⟨_, _, _, .inr (.inr ⟨p, rfl, updM_same⟩), rfl, hx, ?_⟩
  generalize updM M0 p _ = M1
  walk_at "rd"
  refine ⟨fun ρ M' => M' = M1 ∧ ∃ e, Told x (.tup [.tup [.int (min a c), .int b], .tup [.int (max a c + 1), .int d]]) (.tup [.int (min a c), .int b]) e ∧ ρ = [some (.frl (ns.map L3.D.int)), some (.ref l), some (.tup [.int (min a c), .int b]), some (.tup [.int (max a c + 1), .int d]), some (.tup [.tup [.int (min a c), .int b], .tup [.int (max a c + 1), .int d]]), some (.str x), some e, none, none, none, none], ?_, ?_⟩
  · walk_at "rd"
    refine ite2 (fun _ => ?_) (fun _ => ?_)
    · walk_at "rd"
      exact Hold.mk ⟨rfl, _, .inr (.inl rfl), rfl⟩
    · exact Hold.mk ⟨rfl, _, .inl rfl, rfl⟩
  rintro ρ M' ⟨rfl, e, he, rfl⟩
  walk_at "rd"
  refine ⟨fun ρ M2 => M2 = M' ∧ ∃ e, Told x (.tup [.tup [.int (min a c), .int b], .tup [.int (max a c + 1), .int d]]) (.tup [.int (min a c), .int b]) e ∧ ρ = [some (.frl (ns.map L3.D.int)), some (.ref l), some (.tup [.int (min a c), .int b]), some (.tup [.int (max a c + 1), .int d]), some (.tup [.tup [.int (min a c), .int b], .tup [.int (max a c + 1), .int d]]), some (.str x), some e, none, none, none, none], ?_, ?_⟩
  · walk_at "rd"
    refine ite2 (fun _ => ?_) (fun _ => ?_)
    · walk_at "rd"
      exact Hold.mk ⟨rfl, _, .inr (.inr rfl), rfl⟩
    · exact Hold.mk ⟨rfl, _, he, rfl⟩
  clear he
  rintro ρ M2 ⟨rfl, e, he, rfl⟩
  have e1 : eqD (.tup [.int (min a c), .int b]) (.tup [.int (min a c), .int b]) = true := eqD_refl 2 _ rfl
  have e2 : eqD (.tup [.int (max a c + 1), .int d]) (.tup [.int (max a c + 1), .int d]) = true := eqD_refl 2 _ rfl
  have e3 : eqD (.tup [.tup [.int (min a c), .int b], .tup [.int (max a c + 1), .int d]]) (.tup [.tup [.int (min a c), .int b], .tup [.int (max a c + 1), .int d]]) = true := eqD_refl 3 _ rfl
  have e4 : okEq e e = true ∧ eqD e e = true := by
    rcases he with rfl | rfl | rfl <;> exact ⟨rfl, eqD_refl 4 _ rfl⟩
  walk_at "rd"
  refine ⟨T.V_Twice, T.na_Twice, ?_⟩
  walk_at "rd"
  rw [e1]
  refine iteT ?_
  walk_at "rd"
  refine ⟨T.V_NoPlace, T.na_NoPlace, ?_⟩
  walk_at "rd"
  rw [e2]
  refine iteT ?_
  walk_at "rd"
  refine ⟨T.V_Stiff, T.na_Stiff, ?_⟩
  walk_at "rd"
  rw [e3]
  refine iteT ?_
  walk_at "rd"
  refine ⟨T.V_Crossed, T.na_Crossed, ?_⟩
  walk_at "rd"
  refine ⟨e4.1, ?_⟩
  rw [e4.2]
  exact h
end
theorem all_mk {l : PySem.W.OpenLaw} {w : World} {K : PySem.W.Frag} {h : Heap} {mg : Str → Option Value} {fa : Addr} (X : K.In h) (G : h.Ns mainGlobals mg) (hfa : mg "law" = some (.ref fa))
    {f0 : Addr} {od0 an0 : Option Addr} {sl0 : Array (Option Value)} {oc0 kV0 dc0 pm0 cd0 ct0 : Value}
    {f1 : Addr} {od1 an1 : Option Addr} {sl1 : Array (Option Value)} {oc1 kV1 dc1 pm1 cd1 ct1 : Value}
    {f2 : Addr} {od2 an2 : Option Addr} {sl2 : Array (Option Value)} {oc2 kV2 dc2 pm2 cd2 ct2 : Value}
    {f3 : Addr} {od3 an3 : Option Addr} {sl3 : Array (Option Value)} {oc3 kV3 dc3 pm3 cd3 ct3 : Value}
    {c_NearError c_NoNumber c_Flat c_Twice c_NoPlace c_Stiff c_Crossed i_Twice i_NoPlace i_Stiff i_Crossed : Addr}
    {odi_Twice ani_Twice : Option Addr} {sli_Twice : Array (Option Value)} {oci_Twice kVi_Twice dci_Twice pmi_Twice cdi_Twice cti_Twice : Value}
    {odi_NoPlace ani_NoPlace : Option Addr} {sli_NoPlace : Array (Option Value)} {oci_NoPlace kVi_NoPlace dci_NoPlace pmi_NoPlace cdi_NoPlace cti_NoPlace : Value}
    {odi_Stiff ani_Stiff : Option Addr} {sli_Stiff : Array (Option Value)} {oci_Stiff kVi_Stiff dci_Stiff pmi_Stiff cdi_Stiff cti_Stiff : Value}
    {odi_Crossed ani_Crossed : Option Addr} {sli_Crossed : Array (Option Value)} {oci_Crossed kVi_Crossed dci_Crossed pmi_Crossed cdi_Crossed cti_Crossed : Value}
    (a0 : PySem.W.nsIn K mainGlobals "_law_nth" = some (some (.ref f0))) (l0 : K.lookup f0 = some ⟨oc0, od0, .func (PySem.W.fnOf "_law_nth" "_law_nth" (defArgs s__law_nth) (defBody s__law_nth) (defScope s__law_nth) .none kV0 dc0 pm0 an0 cd0 ct0), sl0⟩) (c0 : PySem.W.codeIn K cd0 "_law_nth" = true) (k0 : PySem.W.keepIn K (.ref f0) = true)
    (a1 : PySem.W.nsIn K mainGlobals "_law_kinds" = some (some (.ref f1))) (l1 : K.lookup f1 = some ⟨oc1, od1, .func (PySem.W.fnOf "_law_kinds" "_law_kinds" (defArgs s__law_kinds) (defBody s__law_kinds) (defScope s__law_kinds) .none kV1 dc1 pm1 an1 cd1 ct1), sl1⟩) (c1 : PySem.W.codeIn K cd1 "_law_kinds" = true) (k1 : PySem.W.keepIn K (.ref f1) = true)
    (a2 : PySem.W.nsIn K mainGlobals "_law_is" = some (some (.ref f2))) (l2 : K.lookup f2 = some ⟨oc2, od2, .func (PySem.W.fnOf "_law_is" "_law_is" (defArgs s__law_is) (defBody s__law_is) (defScope s__law_is) .none kV2 dc2 pm2 an2 cd2 ct2), sl2⟩) (c2 : PySem.W.codeIn K cd2 "_law_is" = true) (k2 : PySem.W.keepIn K (.ref f2) = true)
    (a3 : PySem.W.nsIn K mainGlobals "law" = some (some (.ref f3))) (l3 : K.lookup f3 = some ⟨oc3, od3, .func (PySem.W.fnOf "law" "law" (defArgs s_law) (defBody s_law) (defScope s_law) .none kV3 dc3 pm3 an3 cd3 ct3), sl3⟩) (c3 : PySem.W.codeIn K cd3 "law" = true) (k3 : PySem.W.keepIn K (.ref f3) = true)
    (z0 : PySem.W.nsIn K mainGlobals "len" = some none)
    (z1 : PySem.W.nsIn K mainGlobals "isinstance" = some none)
    (z2 : PySem.W.nsIn K mainGlobals "ValueError" = some none)
    (z3 : PySem.W.nsIn K mainGlobals "range" = some none)
    (z4 : PySem.W.nsIn K mainGlobals "min" = some none)
    (z5 : PySem.W.nsIn K mainGlobals "max" = some none)
    (y_NearError : PySem.W.nsIn K mainGlobals "NearError" = some (some (.ref c_NearError)))
    (y_NoNumber : PySem.W.nsIn K mainGlobals "NoNumber" = some (some (.ref c_NoNumber)))
    (y_Flat : PySem.W.nsIn K mainGlobals "Flat" = some (some (.ref c_Flat)))
    (y_Twice : PySem.W.nsIn K mainGlobals "Twice" = some (some (.ref c_Twice)))
    (y_NoPlace : PySem.W.nsIn K mainGlobals "NoPlace" = some (some (.ref c_NoPlace)))
    (y_Stiff : PySem.W.nsIn K mainGlobals "Stiff" = some (some (.ref c_Stiff)))
    (y_Crossed : PySem.W.nsIn K mainGlobals "Crossed" = some (some (.ref c_Crossed)))
    (x0_NoNumber : PySem.W.findIn K (.ref c_NoNumber) "__getattribute__" = some (some (.builtin "BaseException.__getattribute__")))
    (x1_NoNumber : PySem.W.findIn K (.ref c_NoNumber) "__getattr__" = some none)
    (x2_NoNumber : PySem.W.findIn K (.ref c_NoNumber) "__class__" = some (some (.builtin "object.__class__")))
    (x3_NoNumber : PySem.W.subIn K (.ref c_NoNumber) (.type "BaseException") = some true)
    (x4_NoNumber : PySem.W.mroIn K c_NoNumber (.type "object") = some true)
    (x5_NoNumber : PySem.W.isClsIn K c_NoNumber = true)
    (E_NoNumber : PySem.W.excIn K c_NoNumber K10.bmV "ValueError.__new__" = true)
    (ke_NoNumber : PySem.W.keepIn K (.ref c_NoNumber) = true)
    (kk_NoNumber_NoNumber : PySem.W.kitOne K (.ref c_NoNumber) (.ref c_NoNumber) = some true)
    (kk_NoNumber_Flat : PySem.W.kitOne K (.ref c_NoNumber) (.ref c_Flat) = some false)
    (kk_NoNumber_Twice : PySem.W.kitOne K (.ref c_NoNumber) (.ref c_Twice) = some false)
    (kk_NoNumber_NoPlace : PySem.W.kitOne K (.ref c_NoNumber) (.ref c_NoPlace) = some false)
    (kk_NoNumber_Stiff : PySem.W.kitOne K (.ref c_NoNumber) (.ref c_Stiff) = some false)
    (kk_NoNumber_Crossed : PySem.W.kitOne K (.ref c_NoNumber) (.ref c_Crossed) = some false)
    (kk_NoNumber_N : PySem.W.kitOne K (.ref c_NoNumber) (.ref c_NearError) = some true)
    (kk_NoNumber_V : PySem.W.kitOne K (.ref c_NoNumber) (.type "ValueError") = some true)
    (x0_Flat : PySem.W.findIn K (.ref c_Flat) "__getattribute__" = some (some (.builtin "BaseException.__getattribute__")))
    (x1_Flat : PySem.W.findIn K (.ref c_Flat) "__getattr__" = some none)
    (x2_Flat : PySem.W.findIn K (.ref c_Flat) "__class__" = some (some (.builtin "object.__class__")))
    (x3_Flat : PySem.W.subIn K (.ref c_Flat) (.type "BaseException") = some true)
    (x4_Flat : PySem.W.mroIn K c_Flat (.type "object") = some true)
    (x5_Flat : PySem.W.isClsIn K c_Flat = true)
    (E_Flat : PySem.W.excIn K c_Flat K10.bmV "ValueError.__new__" = true)
    (ke_Flat : PySem.W.keepIn K (.ref c_Flat) = true)
    (kk_Flat_NoNumber : PySem.W.kitOne K (.ref c_Flat) (.ref c_NoNumber) = some false)
    (kk_Flat_Flat : PySem.W.kitOne K (.ref c_Flat) (.ref c_Flat) = some true)
    (kk_Flat_Twice : PySem.W.kitOne K (.ref c_Flat) (.ref c_Twice) = some false)
    (kk_Flat_NoPlace : PySem.W.kitOne K (.ref c_Flat) (.ref c_NoPlace) = some false)
    (kk_Flat_Stiff : PySem.W.kitOne K (.ref c_Flat) (.ref c_Stiff) = some false)
    (kk_Flat_Crossed : PySem.W.kitOne K (.ref c_Flat) (.ref c_Crossed) = some false)
    (kk_Flat_N : PySem.W.kitOne K (.ref c_Flat) (.ref c_NearError) = some true)
    (kk_Flat_V : PySem.W.kitOne K (.ref c_Flat) (.type "ValueError") = some true)
    (x0_Twice : PySem.W.findIn K (.ref c_Twice) "__getattribute__" = some (some (.builtin "BaseException.__getattribute__")))
    (x1_Twice : PySem.W.findIn K (.ref c_Twice) "__getattr__" = some none)
    (x2_Twice : PySem.W.findIn K (.ref c_Twice) "__class__" = some (some (.builtin "object.__class__")))
    (x3_Twice : PySem.W.subIn K (.ref c_Twice) (.type "BaseException") = some true)
    (x4_Twice : PySem.W.mroIn K c_Twice (.type "object") = some true)
    (x5_Twice : PySem.W.isClsIn K c_Twice = true)
    (in_Twice : PySem.W.findIn K (.ref c_Twice) "__init__" = some (some (.ref i_Twice)))
    (fn_Twice : PySem.W.isFn K (.ref i_Twice) = true)
    (na_Twice : PySem.W.findIn K (.ref c_Twice) "place" = some none)
    (kk_Twice_NoNumber : PySem.W.kitOne K (.ref c_Twice) (.ref c_NoNumber) = some false)
    (kk_Twice_Flat : PySem.W.kitOne K (.ref c_Twice) (.ref c_Flat) = some false)
    (kk_Twice_Twice : PySem.W.kitOne K (.ref c_Twice) (.ref c_Twice) = some true)
    (kk_Twice_NoPlace : PySem.W.kitOne K (.ref c_Twice) (.ref c_NoPlace) = some false)
    (kk_Twice_Stiff : PySem.W.kitOne K (.ref c_Twice) (.ref c_Stiff) = some false)
    (kk_Twice_Crossed : PySem.W.kitOne K (.ref c_Twice) (.ref c_Crossed) = some false)
    (kk_Twice_N : PySem.W.kitOne K (.ref c_Twice) (.ref c_NearError) = some true)
    (kk_Twice_V : PySem.W.kitOne K (.ref c_Twice) (.type "ValueError") = some true)
    (vt_Twice : K10.excT K c_Twice = true)
    (vo_Twice : K10.overIn K c_Twice = true)
    (va_Twice : PySem.W.specialIn K (.ref c_Twice) "__call__" = some (some (.builtin "type.__call__")))
    (vy_Twice : PySem.W.instIn K (.ref c_Twice) (.type "type") = some true)
    (vk_Twice : PySem.W.keepIn K (.ref c_Twice) = true)
    (vd_Twice : PySem.W.hasDictIn K c_Twice = true)
    (vs_Twice : PySem.W.findIn K (.ref c_Twice) "__setattr__" = some (some (.builtin "object.__setattr__")))
    (li_Twice : K.lookup i_Twice = some ⟨oci_Twice, odi_Twice, .func (PySem.W.fnOf "__init__" "Twice.__init__" (defArgs si_Twice) (defBody si_Twice) (defScope si_Twice) .none kVi_Twice dci_Twice pmi_Twice ani_Twice cdi_Twice cti_Twice), sli_Twice⟩)
    (ci_Twice : PySem.W.codeIn K cdi_Twice "Twice.__init__" = true)
    (ki_Twice : PySem.W.keepIn K (.ref i_Twice) = true)
    (x0_NoPlace : PySem.W.findIn K (.ref c_NoPlace) "__getattribute__" = some (some (.builtin "BaseException.__getattribute__")))
    (x1_NoPlace : PySem.W.findIn K (.ref c_NoPlace) "__getattr__" = some none)
    (x2_NoPlace : PySem.W.findIn K (.ref c_NoPlace) "__class__" = some (some (.builtin "object.__class__")))
    (x3_NoPlace : PySem.W.subIn K (.ref c_NoPlace) (.type "BaseException") = some true)
    (x4_NoPlace : PySem.W.mroIn K c_NoPlace (.type "object") = some true)
    (x5_NoPlace : PySem.W.isClsIn K c_NoPlace = true)
    (in_NoPlace : PySem.W.findIn K (.ref c_NoPlace) "__init__" = some (some (.ref i_NoPlace)))
    (fn_NoPlace : PySem.W.isFn K (.ref i_NoPlace) = true)
    (na_NoPlace : PySem.W.findIn K (.ref c_NoPlace) "place" = some none)
    (kk_NoPlace_NoNumber : PySem.W.kitOne K (.ref c_NoPlace) (.ref c_NoNumber) = some false)
    (kk_NoPlace_Flat : PySem.W.kitOne K (.ref c_NoPlace) (.ref c_Flat) = some false)
    (kk_NoPlace_Twice : PySem.W.kitOne K (.ref c_NoPlace) (.ref c_Twice) = some false)
    (kk_NoPlace_NoPlace : PySem.W.kitOne K (.ref c_NoPlace) (.ref c_NoPlace) = some true)
    (kk_NoPlace_Stiff : PySem.W.kitOne K (.ref c_NoPlace) (.ref c_Stiff) = some false)
    (kk_NoPlace_Crossed : PySem.W.kitOne K (.ref c_NoPlace) (.ref c_Crossed) = some false)
    (kk_NoPlace_N : PySem.W.kitOne K (.ref c_NoPlace) (.ref c_NearError) = some true)
    (kk_NoPlace_V : PySem.W.kitOne K (.ref c_NoPlace) (.type "ValueError") = some true)
    (vt_NoPlace : K10.excT K c_NoPlace = true)
    (vo_NoPlace : K10.overIn K c_NoPlace = true)
    (va_NoPlace : PySem.W.specialIn K (.ref c_NoPlace) "__call__" = some (some (.builtin "type.__call__")))
    (vy_NoPlace : PySem.W.instIn K (.ref c_NoPlace) (.type "type") = some true)
    (vk_NoPlace : PySem.W.keepIn K (.ref c_NoPlace) = true)
    (vd_NoPlace : PySem.W.hasDictIn K c_NoPlace = true)
    (vs_NoPlace : PySem.W.findIn K (.ref c_NoPlace) "__setattr__" = some (some (.builtin "object.__setattr__")))
    (li_NoPlace : K.lookup i_NoPlace = some ⟨oci_NoPlace, odi_NoPlace, .func (PySem.W.fnOf "__init__" "NoPlace.__init__" (defArgs si_NoPlace) (defBody si_NoPlace) (defScope si_NoPlace) .none kVi_NoPlace dci_NoPlace pmi_NoPlace ani_NoPlace cdi_NoPlace cti_NoPlace), sli_NoPlace⟩)
    (ci_NoPlace : PySem.W.codeIn K cdi_NoPlace "NoPlace.__init__" = true)
    (ki_NoPlace : PySem.W.keepIn K (.ref i_NoPlace) = true)
    (x0_Stiff : PySem.W.findIn K (.ref c_Stiff) "__getattribute__" = some (some (.builtin "BaseException.__getattribute__")))
    (x1_Stiff : PySem.W.findIn K (.ref c_Stiff) "__getattr__" = some none)
    (x2_Stiff : PySem.W.findIn K (.ref c_Stiff) "__class__" = some (some (.builtin "object.__class__")))
    (x3_Stiff : PySem.W.subIn K (.ref c_Stiff) (.type "BaseException") = some true)
    (x4_Stiff : PySem.W.mroIn K c_Stiff (.type "object") = some true)
    (x5_Stiff : PySem.W.isClsIn K c_Stiff = true)
    (in_Stiff : PySem.W.findIn K (.ref c_Stiff) "__init__" = some (some (.ref i_Stiff)))
    (fn_Stiff : PySem.W.isFn K (.ref i_Stiff) = true)
    (na_Stiff : PySem.W.findIn K (.ref c_Stiff) "side" = some none)
    (kk_Stiff_NoNumber : PySem.W.kitOne K (.ref c_Stiff) (.ref c_NoNumber) = some false)
    (kk_Stiff_Flat : PySem.W.kitOne K (.ref c_Stiff) (.ref c_Flat) = some false)
    (kk_Stiff_Twice : PySem.W.kitOne K (.ref c_Stiff) (.ref c_Twice) = some false)
    (kk_Stiff_NoPlace : PySem.W.kitOne K (.ref c_Stiff) (.ref c_NoPlace) = some false)
    (kk_Stiff_Stiff : PySem.W.kitOne K (.ref c_Stiff) (.ref c_Stiff) = some true)
    (kk_Stiff_Crossed : PySem.W.kitOne K (.ref c_Stiff) (.ref c_Crossed) = some false)
    (kk_Stiff_N : PySem.W.kitOne K (.ref c_Stiff) (.ref c_NearError) = some true)
    (kk_Stiff_V : PySem.W.kitOne K (.ref c_Stiff) (.type "ValueError") = some true)
    (vt_Stiff : K10.excT K c_Stiff = true)
    (vo_Stiff : K10.overIn K c_Stiff = true)
    (va_Stiff : PySem.W.specialIn K (.ref c_Stiff) "__call__" = some (some (.builtin "type.__call__")))
    (vy_Stiff : PySem.W.instIn K (.ref c_Stiff) (.type "type") = some true)
    (vk_Stiff : PySem.W.keepIn K (.ref c_Stiff) = true)
    (vd_Stiff : PySem.W.hasDictIn K c_Stiff = true)
    (vs_Stiff : PySem.W.findIn K (.ref c_Stiff) "__setattr__" = some (some (.builtin "object.__setattr__")))
    (li_Stiff : K.lookup i_Stiff = some ⟨oci_Stiff, odi_Stiff, .func (PySem.W.fnOf "__init__" "Stiff.__init__" (defArgs si_Stiff) (defBody si_Stiff) (defScope si_Stiff) .none kVi_Stiff dci_Stiff pmi_Stiff ani_Stiff cdi_Stiff cti_Stiff), sli_Stiff⟩)
    (ci_Stiff : PySem.W.codeIn K cdi_Stiff "Stiff.__init__" = true)
    (ki_Stiff : PySem.W.keepIn K (.ref i_Stiff) = true)
    (x0_Crossed : PySem.W.findIn K (.ref c_Crossed) "__getattribute__" = some (some (.builtin "BaseException.__getattribute__")))
    (x1_Crossed : PySem.W.findIn K (.ref c_Crossed) "__getattr__" = some none)
    (x2_Crossed : PySem.W.findIn K (.ref c_Crossed) "__class__" = some (some (.builtin "object.__class__")))
    (x3_Crossed : PySem.W.subIn K (.ref c_Crossed) (.type "BaseException") = some true)
    (x4_Crossed : PySem.W.mroIn K c_Crossed (.type "object") = some true)
    (x5_Crossed : PySem.W.isClsIn K c_Crossed = true)
    (in_Crossed : PySem.W.findIn K (.ref c_Crossed) "__init__" = some (some (.ref i_Crossed)))
    (fn_Crossed : PySem.W.isFn K (.ref i_Crossed) = true)
    (na_Crossed : PySem.W.findIn K (.ref c_Crossed) "fault" = some none)
    (kk_Crossed_NoNumber : PySem.W.kitOne K (.ref c_Crossed) (.ref c_NoNumber) = some false)
    (kk_Crossed_Flat : PySem.W.kitOne K (.ref c_Crossed) (.ref c_Flat) = some false)
    (kk_Crossed_Twice : PySem.W.kitOne K (.ref c_Crossed) (.ref c_Twice) = some false)
    (kk_Crossed_NoPlace : PySem.W.kitOne K (.ref c_Crossed) (.ref c_NoPlace) = some false)
    (kk_Crossed_Stiff : PySem.W.kitOne K (.ref c_Crossed) (.ref c_Stiff) = some false)
    (kk_Crossed_Crossed : PySem.W.kitOne K (.ref c_Crossed) (.ref c_Crossed) = some true)
    (kk_Crossed_N : PySem.W.kitOne K (.ref c_Crossed) (.ref c_NearError) = some true)
    (kk_Crossed_V : PySem.W.kitOne K (.ref c_Crossed) (.type "ValueError") = some true)
    (vt_Crossed : K10.excT K c_Crossed = true)
    (vo_Crossed : K10.overIn K c_Crossed = true)
    (va_Crossed : PySem.W.specialIn K (.ref c_Crossed) "__call__" = some (some (.builtin "type.__call__")))
    (vy_Crossed : PySem.W.instIn K (.ref c_Crossed) (.type "type") = some true)
    (vk_Crossed : PySem.W.keepIn K (.ref c_Crossed) = true)
    (vd_Crossed : PySem.W.hasDictIn K c_Crossed = true)
    (vs_Crossed : PySem.W.findIn K (.ref c_Crossed) "__setattr__" = some (some (.builtin "object.__setattr__")))
    (li_Crossed : K.lookup i_Crossed = some ⟨oci_Crossed, odi_Crossed, .func (PySem.W.fnOf "__init__" "Crossed.__init__" (defArgs si_Crossed) (defBody si_Crossed) (defScope si_Crossed) .none kVi_Crossed dci_Crossed pmi_Crossed ani_Crossed cdi_Crossed cti_Crossed), sli_Crossed⟩)
    (ci_Crossed : PySem.W.codeIn K cdi_Crossed "Crossed.__init__" = true)
    (ki_Crossed : PySem.W.keepIn K (.ref i_Crossed) = true) :
    ∃ fd : FuncData, (∀ (s : Shared) (v : Value), BindsTo s fd ⟨[v], []⟩ [("_law_script", v)]) ∧ ∀ base : Heap, K.In base → base.Ns mainGlobals mg → FnOk l.prog w K mg base CX0 3 fa fd ["_law_script"] (spP K S_law) := by
  have e := hfa.symm.trans (PySem.W.mg_of X G a3)
  cases e
  have T : Txt K mg ⟨_, _, _, _, _, _, _, _, _, _, _, _, _, _, _, _, _, _, _, _, _, _, _⟩ := ⟨fun_mk (st := s__law_nth) l0 c0 k0, PySem.W.mg_of X G a0, fun_mk (st := s__law_kinds) l1 c1 k1, PySem.W.mg_of X G a1, fun_mk (st := s__law_is) l2 c2 k2, PySem.W.mg_of X G a2, fun_mk (st := s_law) l3 c3 k3, PySem.W.mg_of X G a3, PySem.W.mg_none_of X G z0, PySem.W.mg_none_of X G z1, PySem.W.mg_none_of X G z2, PySem.W.mg_none_of X G z3, PySem.W.mg_none_of X G z4, PySem.W.mg_none_of X G z5, PySem.W.mg_of X G y_NearError, PySem.W.mg_of X G y_NoNumber, PySem.W.mg_of X G y_Flat, PySem.W.mg_of X G y_Twice, PySem.W.mg_of X G y_NoPlace, PySem.W.mg_of X G y_Stiff, PySem.W.mg_of X G y_Crossed, ⟨x0_NoNumber, x1_NoNumber, x2_NoNumber, x3_NoNumber, x4_NoNumber, x5_NoNumber⟩, E_NoNumber, ke_NoNumber, kk_NoNumber_NoNumber, kk_NoNumber_Flat, kk_NoNumber_Twice, kk_NoNumber_NoPlace, kk_NoNumber_Stiff, kk_NoNumber_Crossed, kk_NoNumber_N, kk_NoNumber_V, ⟨x0_Flat, x1_Flat, x2_Flat, x3_Flat, x4_Flat, x5_Flat⟩, E_Flat, ke_Flat, kk_Flat_NoNumber, kk_Flat_Flat, kk_Flat_Twice, kk_Flat_NoPlace, kk_Flat_Stiff, kk_Flat_Crossed, kk_Flat_N, kk_Flat_V, ⟨x0_Twice, x1_Twice, x2_Twice, x3_Twice, x4_Twice, x5_Twice⟩, ⟨⟨x0_Twice, x1_Twice, x2_Twice, x3_Twice, x4_Twice, x5_Twice⟩, vt_Twice, va_Twice, vy_Twice, vk_Twice, vd_Twice, vo_Twice, vs_Twice⟩, fun_mk (st := si_Twice) li_Twice ci_Twice ki_Twice, in_Twice, fn_Twice, na_Twice, kk_Twice_NoNumber, kk_Twice_Flat, kk_Twice_Twice, kk_Twice_NoPlace, kk_Twice_Stiff, kk_Twice_Crossed, kk_Twice_N, kk_Twice_V, ⟨x0_NoPlace, x1_NoPlace, x2_NoPlace, x3_NoPlace, x4_NoPlace, x5_NoPlace⟩, ⟨⟨x0_NoPlace, x1_NoPlace, x2_NoPlace, x3_NoPlace, x4_NoPlace, x5_NoPlace⟩, vt_NoPlace, va_NoPlace, vy_NoPlace, vk_NoPlace, vd_NoPlace, vo_NoPlace, vs_NoPlace⟩, fun_mk (st := si_NoPlace) li_NoPlace ci_NoPlace ki_NoPlace, in_NoPlace, fn_NoPlace, na_NoPlace, kk_NoPlace_NoNumber, kk_NoPlace_Flat, kk_NoPlace_Twice, kk_NoPlace_NoPlace, kk_NoPlace_Stiff, kk_NoPlace_Crossed, kk_NoPlace_N, kk_NoPlace_V, ⟨x0_Stiff, x1_Stiff, x2_Stiff, x3_Stiff, x4_Stiff, x5_Stiff⟩, ⟨⟨x0_Stiff, x1_Stiff, x2_Stiff, x3_Stiff, x4_Stiff, x5_Stiff⟩, vt_Stiff, va_Stiff, vy_Stiff, vk_Stiff, vd_Stiff, vo_Stiff, vs_Stiff⟩, fun_mk (st := si_Stiff) li_Stiff ci_Stiff ki_Stiff, in_Stiff, fn_Stiff, na_Stiff, kk_Stiff_NoNumber, kk_Stiff_Flat, kk_Stiff_Twice, kk_Stiff_NoPlace, kk_Stiff_Stiff, kk_Stiff_Crossed, kk_Stiff_N, kk_Stiff_V, ⟨x0_Crossed, x1_Crossed, x2_Crossed, x3_Crossed, x4_Crossed, x5_Crossed⟩, ⟨⟨x0_Crossed, x1_Crossed, x2_Crossed, x3_Crossed, x4_Crossed, x5_Crossed⟩, vt_Crossed, va_Crossed, vy_Crossed, vk_Crossed, vd_Crossed, vo_Crossed, vs_Crossed⟩, fun_mk (st := si_Crossed) li_Crossed ci_Crossed ki_Crossed, in_Crossed, fn_Crossed, na_Crossed, kk_Crossed_NoNumber, kk_Crossed_Flat, kk_Crossed_Twice, kk_Crossed_NoPlace, kk_Crossed_Stiff, kk_Crossed_Crossed, kk_Crossed_N, kk_Crossed_V⟩
  exact ⟨_, fun s v => .of_eq rfl, fun base _ _ => ok_law T⟩
end Pf
open PySem PySem.W PyProof.Rows
set_option maxRecDepth 100000 in
set_option maxHeartbeats 0 in
theorem PySem.Challenge.cw_nearland_k10_refusals_holds : PySem.Challenge.rw_nearland_k10_refusals.Holds := by
  w_on; o_law; k_head; (case hw => w_witness2)
  k_fill
  refine L2.walk_ofK (l := PySem.Challenge.rw_nearland_k10_refusals) (n := 63) (k := 3) (x := "_law_script") (CX := L2.CX0) (sp := fun K => L3.spP K Pf.S_law) rfl (by decide) rfl ⟨rfl, by decide, by decide⟩ (fun w h Y => PySem.W.kIn_of Y) ?F (fun K H a ns hl hO hS => L3.law_sp hl hO hS) (fun _ _ _ _ z => z)
  case F =>
    intro w mg fa h KX G hmg
    refine' Pf.all_mk KX G hmg ?a0 ?l0 ?c0 ?k0 ?a1 ?l1 ?c1 ?k1 ?a2 ?l2 ?c2 ?k2 ?a3 ?l3 ?c3 ?k3 ?z0 ?z1 ?z2 ?z3 ?z4 ?z5 ?y_NearError ?y_NoNumber ?y_Flat ?y_Twice ?y_NoPlace ?y_Stiff ?y_Crossed ?x0_NoNumber ?x1_NoNumber ?x2_NoNumber ?x3_NoNumber ?x4_NoNumber ?x5_NoNumber ?E_NoNumber ?ke_NoNumber ?kk_NoNumber_NoNumber ?kk_NoNumber_Flat ?kk_NoNumber_Twice ?kk_NoNumber_NoPlace ?kk_NoNumber_Stiff ?kk_NoNumber_Crossed ?kk_NoNumber_N ?kk_NoNumber_V ?x0_Flat ?x1_Flat ?x2_Flat ?x3_Flat ?x4_Flat ?x5_Flat ?E_Flat ?ke_Flat ?kk_Flat_NoNumber ?kk_Flat_Flat ?kk_Flat_Twice ?kk_Flat_NoPlace ?kk_Flat_Stiff ?kk_Flat_Crossed ?kk_Flat_N ?kk_Flat_V ?x0_Twice ?x1_Twice ?x2_Twice ?x3_Twice ?x4_Twice ?x5_Twice ?in_Twice ?fn_Twice ?na_Twice ?kk_Twice_NoNumber ?kk_Twice_Flat ?kk_Twice_Twice ?kk_Twice_NoPlace ?kk_Twice_Stiff ?kk_Twice_Crossed ?kk_Twice_N ?kk_Twice_V ?vt_Twice ?vo_Twice ?va_Twice ?vy_Twice ?vk_Twice ?vd_Twice ?vs_Twice ?li_Twice ?ci_Twice ?ki_Twice ?x0_NoPlace ?x1_NoPlace ?x2_NoPlace ?x3_NoPlace ?x4_NoPlace ?x5_NoPlace ?in_NoPlace ?fn_NoPlace ?na_NoPlace ?kk_NoPlace_NoNumber ?kk_NoPlace_Flat ?kk_NoPlace_Twice ?kk_NoPlace_NoPlace ?kk_NoPlace_Stiff ?kk_NoPlace_Crossed ?kk_NoPlace_N ?kk_NoPlace_V ?vt_NoPlace ?vo_NoPlace ?va_NoPlace ?vy_NoPlace ?vk_NoPlace ?vd_NoPlace ?vs_NoPlace ?li_NoPlace ?ci_NoPlace ?ki_NoPlace ?x0_Stiff ?x1_Stiff ?x2_Stiff ?x3_Stiff ?x4_Stiff ?x5_Stiff ?in_Stiff ?fn_Stiff ?na_Stiff ?kk_Stiff_NoNumber ?kk_Stiff_Flat ?kk_Stiff_Twice ?kk_Stiff_NoPlace ?kk_Stiff_Stiff ?kk_Stiff_Crossed ?kk_Stiff_N ?kk_Stiff_V ?vt_Stiff ?vo_Stiff ?va_Stiff ?vy_Stiff ?vk_Stiff ?vd_Stiff ?vs_Stiff ?li_Stiff ?ci_Stiff ?ki_Stiff ?x0_Crossed ?x1_Crossed ?x2_Crossed ?x3_Crossed ?x4_Crossed ?x5_Crossed ?in_Crossed ?fn_Crossed ?na_Crossed ?kk_Crossed_NoNumber ?kk_Crossed_Flat ?kk_Crossed_Twice ?kk_Crossed_NoPlace ?kk_Crossed_Stiff ?kk_Crossed_Crossed ?kk_Crossed_N ?kk_Crossed_V ?vt_Crossed ?vo_Crossed ?va_Crossed ?vy_Crossed ?vk_Crossed ?vd_Crossed ?vs_Crossed ?li_Crossed ?ci_Crossed ?ki_Crossed
    (case a0 => k_is)
    (case l0 => k_is)
    (case c0 => k_is)
    (case k0 => k_is)
    (case a1 => k_is)
    (case l1 => k_is)
    (case c1 => k_is)
    (case k1 => k_is)
    (case a2 => k_is)
    (case l2 => k_is)
    (case c2 => k_is)
    (case k2 => k_is)
    (case a3 => k_is)
    (case l3 => k_is)
    (case c3 => k_is)
    (case k3 => k_is)
    (case z0 => k_is)
    (case z1 => k_is)
    (case z2 => k_is)
    (case z3 => k_is)
    (case z4 => k_is)
    (case z5 => k_is)
    (case y_NearError => k_is)
    (case y_NoNumber => k_is)
    (case y_Flat => k_is)
    (case y_Twice => k_is)
    (case y_NoPlace => k_is)
    (case y_Stiff => k_is)
    (case y_Crossed => k_is)
    (case x0_NoNumber => k_is)
    (case x1_NoNumber => k_is)
    (case x2_NoNumber => k_is)
    (case x3_NoNumber => k_is)
    (case x4_NoNumber => k_is)
    (case x5_NoNumber => k_is)
    (case E_NoNumber => k_exc)
    (case ke_NoNumber => k_is)
    (case kk_NoNumber_NoNumber => kit_is)
    (case kk_NoNumber_Flat => kit_is)
    (case kk_NoNumber_Twice => kit_is)
    (case kk_NoNumber_NoPlace => kit_is)
    (case kk_NoNumber_Stiff => kit_is)
    (case kk_NoNumber_Crossed => kit_is)
    (case kk_NoNumber_N => kit_is)
    (case kk_NoNumber_V => kit_is)
    (case x0_Flat => k_is)
    (case x1_Flat => k_is)
    (case x2_Flat => k_is)
    (case x3_Flat => k_is)
    (case x4_Flat => k_is)
    (case x5_Flat => k_is)
    (case E_Flat => k_exc)
    (case ke_Flat => k_is)
    (case kk_Flat_NoNumber => kit_is)
    (case kk_Flat_Flat => kit_is)
    (case kk_Flat_Twice => kit_is)
    (case kk_Flat_NoPlace => kit_is)
    (case kk_Flat_Stiff => kit_is)
    (case kk_Flat_Crossed => kit_is)
    (case kk_Flat_N => kit_is)
    (case kk_Flat_V => kit_is)
    (case x0_Twice => k_is)
    (case x1_Twice => k_is)
    (case x2_Twice => k_is)
    (case x3_Twice => k_is)
    (case x4_Twice => k_is)
    (case x5_Twice => k_is)
    (case in_Twice => k_is)
    (case fn_Twice => k_is)
    (case na_Twice => k_is)
    (case kk_Twice_NoNumber => kit_is)
    (case kk_Twice_Flat => kit_is)
    (case kk_Twice_Twice => kit_is)
    (case kk_Twice_NoPlace => kit_is)
    (case kk_Twice_Stiff => kit_is)
    (case kk_Twice_Crossed => kit_is)
    (case kk_Twice_N => kit_is)
    (case kk_Twice_V => kit_is)
    (case vt_Twice => kernel_rfl)
    (case vo_Twice => kernel_rfl)
    (case va_Twice => k_is)
    (case vy_Twice => k_is)
    (case vk_Twice => k_is)
    (case vd_Twice => k_is)
    (case vs_Twice => k_is)
    (case li_Twice => k_is)
    (case ci_Twice => k_is)
    (case ki_Twice => k_is)
    (case x0_NoPlace => k_is)
    (case x1_NoPlace => k_is)
    (case x2_NoPlace => k_is)
    (case x3_NoPlace => k_is)
    (case x4_NoPlace => k_is)
    (case x5_NoPlace => k_is)
    (case in_NoPlace => k_is)
    (case fn_NoPlace => k_is)
    (case na_NoPlace => k_is)
    (case kk_NoPlace_NoNumber => kit_is)
    (case kk_NoPlace_Flat => kit_is)
    (case kk_NoPlace_Twice => kit_is)
    (case kk_NoPlace_NoPlace => kit_is)
    (case kk_NoPlace_Stiff => kit_is)
    (case kk_NoPlace_Crossed => kit_is)
    (case kk_NoPlace_N => kit_is)
    (case kk_NoPlace_V => kit_is)
    (case vt_NoPlace => kernel_rfl)
    (case vo_NoPlace => kernel_rfl)
    (case va_NoPlace => k_is)
    (case vy_NoPlace => k_is)
    (case vk_NoPlace => k_is)
    (case vd_NoPlace => k_is)
    (case vs_NoPlace => k_is)
    (case li_NoPlace => k_is)
    (case ci_NoPlace => k_is)
    (case ki_NoPlace => k_is)
    (case x0_Stiff => k_is)
    (case x1_Stiff => k_is)
    (case x2_Stiff => k_is)
    (case x3_Stiff => k_is)
    (case x4_Stiff => k_is)
    (case x5_Stiff => k_is)
    (case in_Stiff => k_is)
    (case fn_Stiff => k_is)
    (case na_Stiff => k_is)
    (case kk_Stiff_NoNumber => kit_is)
    (case kk_Stiff_Flat => kit_is)
    (case kk_Stiff_Twice => kit_is)
    (case kk_Stiff_NoPlace => kit_is)
    (case kk_Stiff_Stiff => kit_is)
    (case kk_Stiff_Crossed => kit_is)
    (case kk_Stiff_N => kit_is)
    (case kk_Stiff_V => kit_is)
    (case vt_Stiff => kernel_rfl)
    (case vo_Stiff => kernel_rfl)
    (case va_Stiff => k_is)
    (case vy_Stiff => k_is)
    (case vk_Stiff => k_is)
    (case vd_Stiff => k_is)
    (case vs_Stiff => k_is)
    (case li_Stiff => k_is)
    (case ci_Stiff => k_is)
    (case ki_Stiff => k_is)
    (case x0_Crossed => k_is)
    (case x1_Crossed => k_is)
    (case x2_Crossed => k_is)
    (case x3_Crossed => k_is)
    (case x4_Crossed => k_is)
    (case x5_Crossed => k_is)
    (case in_Crossed => k_is)
    (case fn_Crossed => k_is)
    (case na_Crossed => k_is)
    (case kk_Crossed_NoNumber => kit_is)
    (case kk_Crossed_Flat => kit_is)
    (case kk_Crossed_Twice => kit_is)
    (case kk_Crossed_NoPlace => kit_is)
    (case kk_Crossed_Stiff => kit_is)
    (case kk_Crossed_Crossed => kit_is)
    (case kk_Crossed_N => kit_is)
    (case kk_Crossed_V => kit_is)
    (case vt_Crossed => kernel_rfl)
    (case vo_Crossed => kernel_rfl)
    (case va_Crossed => k_is)
    (case vy_Crossed => k_is)
    (case vk_Crossed => k_is)
    (case vd_Crossed => k_is)
    (case vs_Crossed => k_is)
    (case li_Crossed => k_is)
    (case ci_Crossed => k_is)
    (case ki_Crossed => k_is)

