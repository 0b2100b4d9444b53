import PyProof.Rows.All
import Wide.All
import OpenK.AllK
import Wide.FinOn
import Lean
import PyProof.EqAt
import PyProof.EqKinds
import PyProof.TupleCall
import PySem.Challenge.RW_nearland_k91_numbers_written
set_option Elab.async false
set_option linter.all false
set_option maxRecDepth 100000
namespace L2
open PySem PySem.Spec PyProof.Rows
abbrev Key := Sum Int Str
def keyIs : Key → Value → Bool
  | .inl k, v => Value.isInt k v
  | .inr x, v => Value.isStrOf x v
def keyH (w : World) : Key → Int
  | .inl k => hashInt k
  | .inr x => hashStr w x
theorem keyIs_shape : ∀ {k : Key} {v : Value}, keyIs k v = true → (∃ i t, k = Sum.inl i ∧ v = Value.int i t) ∨ (∃ x t, k = Sum.inr x ∧ v = Value.str x t)
  | .inl i, v, h => by
    obtain ⟨t, e⟩ := Value.isInt_shape (k := i) (v := v) h
    exact .inl ⟨i, t, rfl, e⟩
  | .inr x, v, h => by
    obtain ⟨t, e⟩ := Value.isStrOf_shape (x := x) (v := v) h
    exact .inr ⟨x, t, rfl, e⟩
theorem key_ll (a b : Int) : decide ((Sum.inl a : Key) = Sum.inl b) = (a == b) := by
  by_cases e : a = b
  · subst e; simp
  · have h : ¬ (Sum.inl a : Key) = Sum.inl b := fun q => e (Sum.inl.inj q)
    rw [decide_eq_false h]
    exact (beq_eq_false_iff_ne.mpr e).symm
theorem key_rr (a b : Str) : decide ((Sum.inr a : Key) = Sum.inr b) = decide (a = b) := by
  by_cases e : a = b
  · subst e; simp
  · have h : ¬ (Sum.inr a : Key) = Sum.inr b := fun q => e (Sum.inr.inj q)
    rw [decide_eq_false h, decide_eq_false e]
theorem key_lr (a : Int) (b : Str) : decide ((Sum.inl a : Key) = Sum.inr b) = false := decide_eq_false (fun q => nomatch q)
theorem key_rl (a : Str) (b : Int) : decide ((Sum.inr a : Key) = Sum.inl b) = false := decide_eq_false (fun q => nomatch q)
def mixKind (prog : Program) (w : World) : PySem.KeyKind prog w Key where
  is := keyIs
  hash := keyH w
  inj := fun v a b ha hb => by
    rcases keyIs_shape ha with ⟨i, t, rfl, rfl⟩ | ⟨x, t, rfl, rfl⟩
    · rcases keyIs_shape hb with ⟨j, u, rfl, e⟩ | ⟨y, u, rfl, e⟩
      · injection e with e1 _; rw [e1]
      · exact nomatch e
    · rcases keyIs_shape hb with ⟨j, u, rfl, e⟩ | ⟨y, u, rfl, e⟩
      · exact nomatch e
      · injection e with e1 _; rw [e1]
  byValue := fun k v h => by
    rcases keyIs_shape h with ⟨i, t, rfl, rfl⟩ | ⟨x, t, rfl, rfl⟩ <;> rfl
  pyHash := fun hv h => by
    rcases keyIs_shape hv with ⟨i, t, rfl, rfl⟩ | ⟨x, t, rfl, rfl⟩
    · exact wpAny_pyHash_int h
    · exact wpAny_pyHash_str h
  eqBool := fun hu hv h => by
    rcases keyIs_shape hu with ⟨i, t, rfl, rfl⟩ | ⟨x, t, rfl, rfl⟩
    · rcases keyIs_shape hv with ⟨j, u, rfl, rfl⟩ | ⟨y, u, rfl, rfl⟩
      · rw [key_ll] at h; exact wpAny_eqBool_int h
      · rw [key_lr] at h; exact SeqAt.EqAt.int_str i t y u _ _ _ _ h
    · rcases keyIs_shape hv with ⟨j, u, rfl, rfl⟩ | ⟨y, u, rfl, rfl⟩
      · rw [key_rl] at h; exact SeqAt.EqAt.str_int x t j u _ _ _ _ h
      · rw [key_rr] at h; exact wpAny_eqBool_str h
  «strs» := fun k x t v h => by
    rcases keyIs_shape h with ⟨i, u, rfl, e⟩ | ⟨y, u, rfl, e⟩
    · exact nomatch e
    · injection e with e1 _
      subst e1
      cases v <;> rfl
end L2
namespace L2
open PySem PySem.Spec PyProof.Rows
inductive V where
  | non | bl (b : Bool) | int (i : Int) | str (x : Str) | byt (b : Array UInt8) | flt (b : UInt64) | ref (a : Addr) | ty (n : String)
  deriving DecidableEq
def RelV : V → Value → Prop
  | .non, u => u = Value.none
  | .bl b, u => u = Value.bool b
  | .int i, u => ∃ t, u = Value.int i t
  | .str x, u => ∃ t, u = Value.str x t
  | .byt b, u => ∃ t, u = Value.bytes b t
  | .flt b, u => ∃ t, u = Value.float b t
  | .ref a, u => u = Value.ref a
  | .ty n, u => u = Value.type n
abbrev Vals : List V → List Value → Prop := Paired RelV
theorem Vals.length {xs : List V} {us : List Value} (r : Vals xs us) : xs.length = us.length := Paired.length r
theorem Vals.get : ∀ {xs : List V} {us : List Value} {i : Nat} {x : V}, Vals xs us → xs[i]? = some x → ∃ u, us[i]? = some u ∧ RelV x u
  | _, _, _, _, .nil, e => by simp at e
  | _, _, 0, _, .cons r _, e => by simp at e; subst e; exact ⟨_, rfl, r⟩
  | _, _, i + 1, x, .cons _ t, e => by
    obtain ⟨u, h1, h2⟩ := Vals.get (i := i) (x := x) t (by simpa using e)
    exact ⟨u, by simpa using h1, h2⟩
theorem Vals.set {x : V} {u : Value} (r : RelV x u) : ∀ {xs : List V} {us : List Value} (i : Nat), Vals xs us → Vals (xs.set i x) (us.set i u)
  | _, _, _, .nil => .nil
  | _, _, 0, .cons _ t => .cons r t
  | _, _, i + 1, .cons q t => .cons q (Vals.set r i t)
theorem Vals.append : ∀ {xs ys : List V} {us ws : List Value}, Vals xs us → Vals ys ws → Vals (xs ++ ys) (us ++ ws)
  | _, _, _, _, .nil, s => s
  | _, _, _, _, .cons r t, s => .cons r (Vals.append t s)
theorem Vals.take : ∀ {xs : List V} {us : List Value} (n : Nat), Vals xs us → Vals (xs.take n) (us.take n)
  | _, _, 0, _ => .nil
  | _, _, _ + 1, .nil => .nil
  | _, _, n + 1, .cons r t => .cons r (Vals.take n t)
theorem Vals.drop : ∀ {xs : List V} {us : List Value} (n : Nat), Vals xs us → Vals (xs.drop n) (us.drop n)
  | _, _, 0, r => r
  | _, _, _ + 1, .nil => .nil
  | _, _, n + 1, .cons _ t => Vals.drop n t
def RelO : Option V → Option Value → Prop
  | some v, some u => RelV v u
  | none, none => True
  | _, _ => False
def KV {κ : Type} : List (κ × V) → List (κ × Value) → Prop := Paired fun (p : κ × V) (q : κ × Value) => p.1 = q.1 ∧ RelV p.2 q.2
def kV : Key → V
  | .inl i => .int i
  | .inr x => .str x
inductive HO where
  | lst (xs : List V)
  | tup (xs : List V)
  | dK (kvs : List (Key × V)) | dT (kvs : List (List Key × V))
  | set (S : Int → Bool) (n : Nat)
  | ins (C dx : Addr) (fs : List (Str × V))
  | own (x : Addr)
  | xd (fs : List (Str × V))
  | met (f x : Addr)
  | rng (lo hi : Int)
  | frz (o : Obj) (u : HO)
  | tbl (ps : Array Value)
  | ext (φ : Heap → Prop)
abbrev Hp := Addr → Option HO
def upd (H : Hp) (a : Addr) (o : HO) : Hp := fun b => if b = a then some o else H b
theorem upd_same {H : Hp} {a : Addr} {o : HO} : upd H a o a = some o := by unfold upd; rw [if_pos rfl]
theorem upd_ne {H : Hp} {a b : Addr} {o : HO} (h : b ≠ a) : upd H a o b = H b := by unfold upd; rw [if_neg h]
theorem ne_of {H : Hp} {a b : Addr} {o u : HO} (h : H a = some o) (h' : H b = some u) (d : o ≠ u) : a ≠ b := by
  intro e; subst e; rw [h] at h'; exact d (Option.some.inj h')
theorem ne_of_none {H : Hp} {a b : Addr} {o : HO} (h : H a = some o) (h' : H b = none) : a ≠ b := by
  intro e; subst e; rw [h] at h'; cases h'
section
variable (P : Program) (w : World)
def ObjOk (H : Hp) (h : Heap) (a : Addr) : HO → Prop
  | .lst xs => xs.length ≤ sizeLine ∧ ∃ (its : List Value) (n : Nat), Vals xs its ∧ h.get? a = some { cls := .type "list", data := .seq its.toArray n }
  | .tup xs => xs.length ≤ sizeLine ∧ ∃ its : List Value, Vals xs its ∧ IsTup h a its.toArray
  | .dK kvs => kvs.length ≤ sizeLine ∧ (a == sysModules) = false ∧ ∃ vs, KV kvs vs ∧ h.DictOf (mixKind P w) a vs
  | .dT kvs => kvs.length ≤ sizeLine ∧ (a == sysModules) = false ∧ ∃ xs : List (List Key × Addr × Value),
      Paired (fun (p : List Key × V) (q : List Key × Addr × Value) => p.1 = q.1 ∧ H q.2.1 = some (.tup (p.1.map kV)) ∧ RelV p.2 q.2.2) kvs xs ∧
      ∃ o es ep, h.get? a = some o ∧ o.ExactDict ∧ o.data = .dict es ep ∧ es.toList = xs.map (entryOfKey (tupleKind (mixKind P w))) ∧ (xs.map (·.1)).Nodup
  | .set S n => h.SetOf (intKind P w) a S n
  | .ins C dx fs => H dx = some (.own a) ∧ fs.length ≤ 1000 ∧ dx ≠ a ∧ h.get? a = some (PySem.W.instObj C dx) ∧
      ∃ mA, h.Ns1 dx mA ∧ (∀ f, RelO (fs.lookup f) (mA f)) ∧ PySem.Within mA (fs.map (·.1))
  | .own _ => ∃ o, h.get? a = some o
  | .xd fs => ∃ mA, h.Ns1 a mA ∧ ∀ f, RelO (fs.lookup f) (mA f)
  | .rng lo hi => ∃ t u v, h.get? a = some { cls := .type "range", data := .fields #[.int lo t, .int hi u, .int 1 v] }
  | .frz o u => h.get? a = some o ∧ ObjOk H h a u
  | .tbl ps => h.get? a = some { cls := .none, data := .fields ps }
  | .met f x => h.get? a = some (PySem.W.methodObj (.ref f) (.ref x))
  | .ext φ => φ h ∧ (∃ o, h.get? a = some o) ∧ ∀ h1 h2 : Heap, φ h1 → (∀ o, h1.get? a = some o → h2.get? a = some o) → φ h2
def HOk (H : Hp) (h : Heap) : Prop := ∀ a o, H a = some o → ObjOk P w H h a o
end
section
variable {P : Program} {w : World} {H H' : Hp} {h h' : Heap} {a : Addr} {o : HO}
theorem ObjOk.lt (x : ObjOk P w H h a o) : a < h.objs.size := by
  cases o with
  | lst xs => obtain ⟨_, _, _, _, e⟩ := x; exact Heap.lt_size e
  | tup xs => obtain ⟨_, _, _, p⟩ := x; exact p.lt
  | dK kvs => obtain ⟨_, _, _, _, o, _, _, e, _⟩ := x; exact Heap.lt_size e
  | dT kvs => obtain ⟨_, _, _, _, o, _, _, e, _⟩ := x; exact Heap.lt_size e
  | set S n => obtain ⟨o, _, _, _, e, _⟩ := x; exact Heap.lt_size e
  | ins C dx fs => obtain ⟨_, _, _, e, _⟩ := x; exact Heap.lt_size e
  | own y => obtain ⟨_, e⟩ := x; exact Heap.lt_size e
  | xd fs => obtain ⟨_, ⟨_, _, _, e, _⟩, _⟩ := x; exact Heap.lt_size e
  | rng lo hi => obtain ⟨_, _, _, e⟩ := x; exact Heap.lt_size e
  | frz ob u => obtain ⟨e, _⟩ := x; exact Heap.lt_size e
  | tbl ps => exact Heap.lt_size (show h.get? a = some _ from x)
  | met f y => exact Heap.lt_size (show h.get? a = some _ from x)
  | ext φ => obtain ⟨_, ⟨_, e⟩, _⟩ := x; exact Heap.lt_size e
theorem Paired.mapP {α β : Type} {F G : α → β → Prop} : ∀ {l₁ : List α} {l₂ : List β}, Paired F l₁ l₂ → (∀ a b, F a b → G a b) → Paired G l₁ l₂
  | _, _, .nil, _ => .nil
  | _, _, .cons r t, f => .cons (f _ _ r) (Paired.mapP t f)
theorem ObjOk.stay (x : ObjOk P w H h a o) (k : ∀ b u, (b = a ∨ H b = some (.own a)) → h.get? b = some u → h'.get? b = some u)
    (ho : ∀ b, H b = some (.own a) → H' b = some (.own a)) (ht : ∀ b xs, H b = some (.tup xs) → H' b = some (.tup xs)) : ObjOk P w H' h' a o := by
  induction o with
  | lst xs => obtain ⟨z, its, n, r, e⟩ := x; exact ⟨z, its, n, r, k _ _ (.inl rfl) e⟩
  | tup xs => obtain ⟨z, its, r, ob, e, c⟩ := x; exact ⟨z, its, r, ob, k _ _ (.inl rfl) e, c⟩
  | dK kvs => obtain ⟨z, y, vs, r, ob, es, ep, e, c⟩ := x; exact ⟨z, y, vs, r, ob, es, ep, k _ _ (.inl rfl) e, c⟩
  | dT kvs =>
    obtain ⟨z, y, xs, r, ob, es, ep, e, c⟩ := x
    exact ⟨z, y, xs, Paired.mapP r fun p q z => ⟨z.1, ht _ _ z.2.1, z.2.2⟩, ob, es, ep, k _ _ (.inl rfl) e, c⟩
  | set S n => obtain ⟨ob, es, ep, t, e, c⟩ := x; exact ⟨ob, es, ep, t, k _ _ (.inl rfl) e, c⟩
  | ins C dx fs =>
    obtain ⟨d, z, ne, e, mA, ⟨od, es, ep, e2, c⟩, r⟩ := x
    exact ⟨ho _ d, z, ne, k _ _ (.inl rfl) e, mA, ⟨od, es, ep, k _ _ (.inr d) e2, c⟩, r⟩
  | own y => obtain ⟨ob, e⟩ := x; exact ⟨ob, k _ _ (.inl rfl) e⟩
  | xd fs => obtain ⟨mA, ⟨od, es, ep, e, c⟩, r⟩ := x; exact ⟨mA, ⟨od, es, ep, k _ _ (.inl rfl) e, c⟩, r⟩
  | rng lo hi => obtain ⟨t, u, v, e⟩ := x; exact ⟨t, u, v, k _ _ (.inl rfl) e⟩
  | frz ob u ih => obtain ⟨e, q⟩ := x; exact ⟨k _ _ (.inl rfl) e, ih q⟩
  | tbl ps =>
    have e : h.get? a = some { cls := .none, data := .fields ps } := x
    show h'.get? a = some { cls := .none, data := .fields ps }
    exact k a _ (.inl rfl) e
  | met f y =>
    have e : h.get? a = some (PySem.W.methodObj (.ref f) (.ref y)) := x
    show h'.get? a = some (PySem.W.methodObj (.ref f) (.ref y))
    exact k a _ (.inl rfl) e
  | ext φ => obtain ⟨p, ⟨o, e⟩, st⟩ := x; exact ⟨st _ _ p fun o q => k _ _ (.inl rfl) q, ⟨o, k _ _ (.inl rfl) e⟩, st⟩
theorem HOk.lt (x : HOk P w H h) (e : H a = some o) : a < h.objs.size := (x a o e).lt
theorem HOk.fresh (x : HOk P w H h) (e : h.objs.size ≤ a) : H a = none := by
  cases q : H a with
  | none => rfl
  | some u => exact absurd (Nat.lt_of_lt_of_le (x.lt q) e) (Nat.lt_irrefl _)
theorem HOk.kept (x : HOk P w H h) (k : ∀ b u, h.get? b = some u → h'.get? b = some u) : HOk P w H h' := fun a o e =>
  (x a o e).stay (fun b u _ q => k b u q) (fun _ q => q) fun _ _ q => q
theorem HOk.laid (x : HOk P w H h) (k : ∀ b u, h.get? b = some u → h'.get? b = some u) (hp : h.objs.size ≤ a) (new : ObjOk P w (upd H a o) h' a o) : HOk P w (upd H a o) h' := fun b u e => by
  have hn := x.fresh hp
  by_cases hb : b = a
  · subst hb; rw [upd_same] at e; cases e; exact new
  · rw [upd_ne hb] at e
    exact (x b u e).stay (fun c v _ q => k c v q) (fun c q => by rw [upd_ne (ne_of_none q hn)]; exact q) fun c xs q => by rw [upd_ne (ne_of_none q hn)]; exact q
end
def Rd (H : Hp) (a : Addr) (u : HO) : Prop := H a = some u ∨ ∃ o, H a = some (.frz o u)
theorem Rd.of {H : Hp} {a : Addr} {u : HO} (h : H a = some u) : Rd H a u := .inl h
theorem Rd.ok {P : Program} {w : World} {H : Hp} {h : Heap} {a : Addr} {u : HO} (r : Rd H a u) (x : HOk P w H h) : ObjOk P w H h a u := by
  rcases r with r | ⟨o, r⟩
  · exact x a u r
  · obtain ⟨_, q⟩ := x a _ r
    exact q
def Mut : Option HO → Prop
  | some (.lst _) => True
  | some (.dK _) => True
  | some (.dT _) => True
  | some (.set _ _) => True
  | some (.ins _ _ _) => True
  | some (.ext _) => True
  | _ => False
section
variable {P : Program} {w : World} {H : Hp} {h h' : Heap} {x e : Addr} {o' : HO}
theorem HOk.write (ok : HOk P w H h) (mu : Mut (H x)) (he : e = x ∨ H e = some (.own x)) (k : ∀ b u, b ≠ e → h.get? b = some u → h'.get? b = some u) (heo : ∃ u, h'.get? e = some u)
    (new : ObjOk P w (upd H x o') h' x o') : HOk P w (upd H x o') h' := fun b u q => by
  have nown : ∀ c y, H c = some (.own y) → c ≠ x := fun c y r z => by subst z; rw [r] at mu; exact mu
  have ntup : ∀ c xs, H c = some (.tup xs) → c ≠ x := fun c xs r z => by subst z; rw [r] at mu; exact mu
  by_cases hb : b = x
  · subst hb; rw [upd_same] at q; cases q; exact new
  · rw [upd_ne hb] at q
    by_cases hbe : b = e
    · have q' : H b = some (.own x) := by
        rcases he with z | z
        · exact absurd (hbe.trans z) hb
        · rw [hbe]; exact z
      rw [q] at q'; cases q'
      obtain ⟨v, hv⟩ := heo
      exact ⟨v, by rw [hbe]; exact hv⟩
    · refine (ok b u q).stay (fun c v hc r => k c v ?_ r) (fun c r => by rw [upd_ne (nown c b r)]; exact r) fun c xs r => by rw [upd_ne (ntup c xs r)]; exact r
      rcases hc with rfl | hc
      · exact hbe
      · rintro rfl
        rcases he with z | z
        · exact nown c b hc z
        · rw [hc] at z; cases z; exact hb rfl
end
structure Un (fs ex : List Addr) (H H' : Hp) (h h' : Heap) : Prop where
  keep : ∀ b o, h.get? b = some o → H b = none → b ∉ fs → b ∉ ex → h'.get? b = some o
  slot : ∀ b o, h.get? b = some o → H b = none → b ∈ fs → b ∉ ex → ∃ sl, h'.get? b = some { o with slots := sl }
  free : ∀ b o, h.get? b = some o → H b = none → b ∉ ex → H' b = none
  there : ∀ b o, h.get? b = some o → b ∉ ex → ∃ o', h'.get? b = some o'
  tups : ∀ b xs, H b = some (.tup xs) → H' b = some (.tup xs)
  frzs : ∀ b o u, H b = some (.frz o u) → H' b = some (.frz o u)
  tbls : ∀ b ps, H b = some (.tbl ps) → ∃ more, H' b = some (.tbl (ps ++ more))
section
variable {fs fs' ex ex' : List Addr} {H H1 H2 : Hp} {h h1 h2 h' : Heap} {a x e : Addr} {o : HO}
theorem Un.any (u : Un fs ex H H1 h h1) {b : Addr} {ob : Obj} (q : h.get? b = some ob) (n : H b = none) (hx : b ∉ ex) : ∃ sl, h1.get? b = some { ob with slots := sl } := by
  by_cases hb : b ∈ fs
  · exact u.slot b ob q n hb hx
  · exact ⟨ob.slots, u.keep b ob q n hb hx⟩
theorem Un.trans (a : Un fs ex H H1 h h1) (b : Un fs ex H1 H2 h1 h2) : Un fs ex H H2 h h2 where
  keep := fun c ob q n hc hx => b.keep c ob (a.keep c ob q n hc hx) (a.free c ob q n hx) hc hx
  slot := fun c ob q n hc hx => by
    obtain ⟨sl, e1⟩ := a.slot c ob q n hc hx
    obtain ⟨sl', e2⟩ := b.slot c _ e1 (a.free c ob q n hx) hc hx
    exact ⟨sl', e2⟩
  free := fun c ob q n hx => by
    obtain ⟨o', e1⟩ := a.there c ob q hx
    exact b.free c o' e1 (a.free c ob q n hx) hx
  there := fun c ob q hx => by
    obtain ⟨o', e1⟩ := a.there c ob q hx
    exact b.there c o' e1 hx
  tups := fun c xs q => b.tups c xs (a.tups c xs q)
  frzs := fun c ob xs q => b.frzs c ob xs (a.frzs c ob xs q)
  tbls := fun c ps q => by
    obtain ⟨m1, e1⟩ := a.tbls c ps q
    obtain ⟨m2, e2⟩ := b.tbls c _ e1
    exact ⟨m1 ++ m2, by rw [e2, Array.append_assoc]⟩
theorem Un.kept (k : ∀ b u, h.get? b = some u → h'.get? b = some u) : Un fs ex H H h h' :=
  ⟨fun b ob q _ _ _ => k b ob q, fun b ob q _ _ _ => ⟨ob.slots, k b ob q⟩, fun _ _ _ n _ => n, fun b ob q _ => ⟨ob, k b ob q⟩, fun _ _ q => q, fun _ _ _ q => q, fun _ ps q => ⟨#[], by rw [q]; simp⟩⟩
theorem Un.refl : Un fs ex H H h h := Un.kept fun _ _ q => q
theorem Un.laid (k : ∀ b u, h.get? b = some u → h'.get? b = some u) (hp : h.objs.size ≤ a) (hn : H a = none) : Un fs ex H (upd H a o) h h' where
  keep := fun b u q _ _ _ => k b u q
  slot := fun b u q _ _ _ => ⟨u.slots, k b u q⟩
  free := fun b u q n _ => by rw [upd_ne (Nat.ne_of_lt (Nat.lt_of_lt_of_le (Heap.lt_size q) hp))]; exact n
  there := fun b u q _ => ⟨u, k b u q⟩
  tups := fun b xs q => by rw [upd_ne (ne_of_none q hn)]; exact q
  frzs := fun b u xs q => by rw [upd_ne (ne_of_none q hn)]; exact q
  tbls := fun b ps q => ⟨#[], by rw [upd_ne (ne_of_none q hn), q]; simp⟩
theorem Un.write (mu : Mut (H x)) (he : e = x ∨ H e = some (.own x)) (k : ∀ b u, b ≠ e → h.get? b = some u → h'.get? b = some u) (heo : ∃ u, h'.get? e = some u) : Un fs ex H (upd H x o) h h' := by
  have hx : ∀ b, H b = none → b ≠ x := fun b n z => by subst z; rw [n] at mu; exact mu
  have hb : ∀ b, H b = none → b ≠ e := fun b n z => by
    subst z
    rcases he with r | r
    · exact hx b n r
    · rw [n] at r; cases r
  have hm : ∀ b u, H b = some u → ¬ Mut (some u) → b ≠ x := fun b u q nm z => by subst z; rw [q] at mu; exact nm mu
  refine ⟨fun b u q n _ _ => k b u (hb b n) q, fun b u q n _ _ => ⟨u.slots, k b u (hb b n) q⟩, fun b u q n _ => by rw [upd_ne (hx b n)]; exact n, fun b u q _ => ?_,
    fun b xs q => by rw [upd_ne (hm b _ q fun z => z)]; exact q, fun b u xs q => by rw [upd_ne (hm b _ q fun z => z)]; exact q, fun b ps q => ⟨#[], by rw [upd_ne (hm b _ q fun z => z), q]; simp⟩⟩
  by_cases hbe : b = e
  · subst hbe; exact heo
  · exact ⟨u, k b u hbe q⟩
theorem Un.mono (u : Un fs ex H H1 h h1) (hs : ∀ b ∈ fs, b ∈ fs') (hx : ∀ b ∈ ex, b ∈ ex') : Un fs' ex' H H1 h h1 :=
  ⟨fun b ob q n hb he => u.keep b ob q n (fun z => hb (hs b z)) fun z => he (hx b z), fun _ _ q n _ he => u.any q n fun z => he (hx _ z), fun b ob q n he => u.free b ob q n fun z => he (hx b z), fun b ob q he => u.there b ob q fun z => he (hx b z), u.tups, u.frzs, u.tbls⟩
end
def trk (h : Heap) (H : Hp) : List Addr := (List.range h.objs.size).filter fun a => (H a).isSome
def hidT (h : Heap) (H : Hp) : Heap := PySem.W.hideAll h (trk h H)
theorem hidT_size (h : Heap) (H : Hp) : (hidT h H).objs.size = h.objs.size := PySem.W.hideAll_size _ _
theorem hidT_get {h : Heap} {H : Hp} {b : Addr} {o : Obj} (e : h.get? b = some o) (n : H b = none) : (hidT h H).get? b = some o :=
  PySem.W.hideAll_get _ e fun hm => by
    have q : (H b).isSome = true := (List.mem_filter.mp hm).2
    rw [n] at q; simp at q
theorem of_hidT {h : Heap} {H : Hp} {b : Addr} {o : Obj} (e : (hidT h H).get? b = some o) : h.get? b = some o ∧ H b = none := by
  have e' : h.get? b = some o := PySem.W.of_hideAll (trk h H) e
  refine ⟨e', ?_⟩
  cases q : H b with
  | none => rfl
  | some x =>
    have hm : b ∈ trk h H := List.mem_filter.mpr ⟨List.mem_range.mpr (Heap.lt_size e'), by simp [q]⟩
    have z : (hidT h H).get? b = none := PySem.W.hideAll_none (trk h H) hm
    rw [z] at e; cases e
def allNews (g h : Heap) (L : Addr) : List (Addr × Obj) := (List.range h.objs.size).filterMap fun a => if a = L ∨ (g.get? a).isSome = true then none else (h.get? a).map fun o => (a, o)
def rest (g h : Heap) (L d : Addr) : List (Addr × Obj) := (allNews g h L).filter fun p => decide (p.1 ≠ d)
end L2
namespace L2
open PySem PySem.Spec PyProof.Rows
structure Mod (K : PySem.W.Frag) (mg : Str → Option Value) (base : Heap) : Prop where
  kin : K.In base
  glob : base.Ns mainGlobals mg
  blt : ∃ mb, base.Ns builtinsNs mb ∧ ∀ x : Str, x ≠ "__name__" → mb x = bootBuiltins x
  nolimit : base.NoLimit
structure Cx where
  prog : Program
  w : World
  K : PySem.W.Frag
  mg : Str → Option Value
  base : Heap
  A : Around
  N : List Str
  s₀ : Shared
  H₀ : Hp
  env : Env
  outer : List Env
  stack : List Env
  ex : List Addr
  fn : Str → Bool
  calm : Bool
  pn : List (Addr × Obj)
  xe : Value → Shared → Prop
def frs (l : List Env) : List Addr := l.filterMap (·.frame)
abbrev Cx.fs (X : Cx) : List Addr := frs X.outer
def Vis (sc : Scope) (x : Str) : Prop := sc.names.lookup x = some .local ∨ sc.names.lookup x = some .cell ∨ sc.names.lookup x = some .free
def Loc (sc : Scope) (x : Str) : Prop := sc.names.lookup x = some .local ∨ sc.names.lookup x = some .cell
def Look (env : Env) (h : Heap) (m : Str → Option Value) (x : Str) (u : Value) : Prop :=
  (env.kindOf x = some .local ∧ m x = some u) ∨ ((env.kindOf x = some .cell ∨ env.kindOf x = some .free) ∧ ∃ c, env.cells.lookup x = some c ∧ h.IsCell c (some u))
structure Cx.Ok (X : Cx) : Prop where
  mod : Mod X.K X.mg X.base
  kind : X.env.scope.kind = .function
  glob : X.env.globals = mainGlobals
  blt : X.env.builtins = builtinsNs
  above : X.s₀.heap.objs.size ≤ X.env.locals
  inj : ∀ x y c, X.env.cells.lookup x = some c → X.env.cells.lookup y = some c → x = y
  has : ∀ x, (X.env.kindOf x = some .cell ∨ X.env.kindOf x = some .free) → ∃ c, X.env.cells.lookup x = some c
  cab : ∀ x c, X.fn x = true → X.env.cells.lookup x = some c → X.s₀.heap.objs.size ≤ c
  hd : X.calm = true → X.A.handled = none
  frames : X.A.frames = some X.stack
  stk : X.stack = X.outer ∨ (X.stack = X.env :: X.outer ∧ X.env.frame = some X.env.locals)
  exf : ∀ b ∈ X.ex, b ≠ X.env.locals ∧ ∀ x c, X.env.cells.lookup x = some c → c ≠ b
  bs : ∀ b o, X.base.get? b = some o → X.s₀.heap.get? b = some o ∧ X.H₀ b = none
  bsz : X.base.objs.size ≤ X.s₀.heap.objs.size
  noex : ∀ b o, X.base.get? b = some o → b ∉ X.ex
  exfs : ∀ b ∈ X.ex, b ∉ X.fs
  funs : X.s₀.heap.FunFrames X.base X.outer
  frf : ∀ b ∈ X.fs, X.H₀ b = none
structure Inv (X : Cx) (pins : List (Addr × Obj)) (σ : List (Option V)) (H : Hp) (s : Shared) : Prop where
  ok : X.Ok
  os : s.os = X.s₀.os
  bare : AllBare s.gens
  base : Un X.fs X.ex X.H₀ H X.s₀.heap s.heap
  loc : ∃ m, s.heap.Ns X.env.locals m ∧ ∀ (i : Nat) (x : Str) (v : V), X.N[i]? = some x → σ[i]? = some (some v) → Vis X.env.scope x → ∃ u, RelV v u ∧ Look X.env s.heap m x u
  cell : ∀ x c, X.env.cells.lookup x = some c → ∃ v, s.heap.IsCell c v
  free : H X.env.locals = none
  freeC : ∀ x c, X.env.cells.lookup x = some c → H c = none
  pin : ∀ p ∈ X.pn ++ pins, s.heap.get? p.1 = some p.2 ∧ H p.1 = none ∧ p.1 ≠ X.env.locals ∧ p.1 ∉ X.fs ∧ ∀ v, p.2.data ≠ .cell v
  hok : HOk X.prog X.w H s.heap
  len : σ.length = X.N.length
section
variable {X : Cx} {pins : List (Addr × Obj)} {σ : List (Option V)} {H H' : Hp} {s : Shared} {h' : Heap}
theorem Cx.Ok.nofr (ok : X.Ok) {b : Addr} {o : Obj} (e : X.base.get? b = some o) : b ∉ X.fs := fun hb => by
  have := (ok.funs.mem hb).1
  rw [e] at this; cases this
theorem Inv.bs (I : Inv X pins σ H s) : ∀ b o, X.base.get? b = some o → s.heap.get? b = some o ∧ H b = none := fun b o e =>
  ⟨I.base.keep b o (I.ok.bs b o e).1 (I.ok.bs b o e).2 (I.ok.nofr e) (I.ok.noex b o e), I.base.free b o (I.ok.bs b o e).1 (I.ok.bs b o e).2 (I.ok.noex b o e)⟩
theorem Inv.bk (I : Inv X pins σ H s) : ∀ b o, X.base.get? b = some o → s.heap.get? b = some o := fun b o e => (I.bs b o e).1
theorem Inv.mod (I : Inv X pins σ H s) : Mod X.K X.mg X.base := I.ok.mod
theorem Inv.kIn (I : Inv X pins σ H s) : X.K.In s.heap := I.ok.mod.kin.keeps I.bk
theorem Inv.nolimit (I : Inv X pins σ H s) : s.heap.NoLimit := I.ok.mod.nolimit.keeps I.bk
theorem Inv.fr (I : Inv X pins σ H s) : ∃ m, Fr X.base X.env.locals s.heap m :=
  let ⟨m, hn, _⟩ := I.loc
  ⟨m, hn, I.bk, Nat.le_trans I.ok.bsz I.ok.above⟩
theorem Inv.lt (I : Inv X pins σ H s) : X.env.locals < s.heap.objs.size := let ⟨_, hn, _⟩ := I.loc; hn.lt
theorem Inv.sz (I : Inv X pins σ H s) : X.s₀.heap.objs.size ≤ s.heap.objs.size := Nat.le_trans I.ok.above (Nat.le_of_lt I.lt)
theorem Inv.nofs (I : Inv X pins σ H s) {a : Addr} (h : s.heap.objs.size ≤ a) : a ∉ X.fs := fun hb => by
  obtain ⟨_, o, ho, _⟩ := I.ok.funs.mem hb
  exact absurd (Nat.lt_of_lt_of_le (Heap.lt_size ho) (Nat.le_trans I.sz h)) (Nat.lt_irrefl _)
theorem Inv.cne (I : Inv X pins σ H s) : ∀ x c, X.env.cells.lookup x = some c → c ≠ X.env.locals := fun x c e z => by
  obtain ⟨v, o, ho, hd⟩ := I.cell x c e
  obtain ⟨m, ⟨o', es, ep, ho', hd', _⟩, _⟩ := I.loc
  rw [z, ho'] at ho; cases ho; rw [hd'] at hd; cases hd
theorem Inv.funs (I : Inv X pins σ H s) : s.heap.FunFrames X.base X.outer := by
  have all : ∀ (l : List Env), (∀ b ∈ frs l, b ∈ X.fs) → X.s₀.heap.FunFrames X.base l → s.heap.FunFrames X.base l := by
    intro l
    induction l with
    | nil => intro _ _; trivial
    | cons env r ih =>
      intro hs hl
      obtain ⟨hk, ⟨L, o, hf, hn, ho, hd⟩, hr⟩ := hl
      have hL : L ∈ X.fs := hs L (by unfold frs; rw [List.filterMap_cons, hf]; exact List.mem_cons_self)
      obtain ⟨sl, e⟩ := I.base.slot L o ho (I.ok.frf L hL) hL fun z => I.ok.exfs L z hL
      exact ⟨hk, ⟨L, _, hf, hn, e, hd⟩, ih (fun b hb => hs b (by unfold frs; rw [List.filterMap_cons, hf]; exact List.mem_cons_of_mem _ hb)) hr⟩
  exact all X.outer (fun _ hb => hb) I.ok.funs
theorem Inv.stack (I : Inv X pins σ H s) : s.heap.FunFrames X.base X.stack := by
  rcases I.ok.stk with e | ⟨e, hf⟩
  · rw [e]; exact I.funs
  · rw [e]
    obtain ⟨m, hn, _⟩ := I.loc
    refine .cons (by rw [I.ok.kind]; decide) hf hn ?_ I.funs
    exact Heap.get?_none_of_le (Nat.le_trans I.ok.bsz I.ok.above)
theorem Inv.stkSub (I : Inv X pins σ H s) : ∀ b ∈ frs X.stack, b ∈ X.env.locals :: X.fs := fun b hb => by
  rcases I.ok.stk with e | ⟨e, hf⟩
  · rw [e] at hb; exact List.mem_cons_of_mem _ hb
  · rw [e] at hb
    unfold frs at hb
    rw [List.filterMap_cons, hf] at hb
    exact hb
theorem Inv.stkFree (I : Inv X pins σ H s) : ∀ b ∈ frs X.stack, H b = none := fun b hb => by
  rcases List.mem_cons.mp (I.stkSub b hb) with e | hb
  · rw [e]; exact I.free
  · obtain ⟨_, o, ho, _⟩ := I.ok.funs.mem hb
    exact I.base.free b o ho (I.ok.frf b hb) fun z => I.ok.exfs b z hb
theorem Inv.step {g' : Array GenState} {t' : Nat} {d' : Drawn} {ch : List Addr} (I : Inv X pins σ H s)
    (hch : ∀ b ∈ ch, (b ∈ X.ex ∨ X.s₀.heap.objs.size ≤ b) ∧ b ≠ X.env.locals ∧ (∀ x c, X.env.cells.lookup x = some c → c ≠ b) ∧ ∀ p ∈ X.pn ++ pins, p.1 ≠ b)
    (keep : ∀ b o, b ≠ X.env.locals → b ∉ X.fs → b ∉ ch → s.heap.get? b = some o → H b = none → h'.get? b = some o)
    (slot : ∀ b o, b ≠ X.env.locals → b ∈ X.fs → b ∉ ch → s.heap.get? b = some o → H b = none → ∃ sl, h'.get? b = some { o with slots := sl }) (free : ∀ b o, b ∉ ch → s.heap.get? b = some o → H b = none → H' b = none)
    (there : ∀ b o, b ∉ ch → s.heap.get? b = some o → ∃ o', h'.get? b = some o')
    (tups : ∀ b xs, H b = some (.tup xs) → H' b = some (.tup xs)) (frzs : ∀ b o u, H b = some (.frz o u) → H' b = some (.frz o u)) (tbls : ∀ b ps, H b = some (.tbl ps) → ∃ more, H' b = some (.tbl (ps ++ more)))
    (ns : ∀ m, s.heap.Ns X.env.locals m → h'.Ns X.env.locals m) (hok : HOk X.prog X.w H' h') (hg : AllBare g') :
    Inv X pins σ H' { s with heap := h', gens := g', drawn := d', toks := t' } := by
  have neL : ∀ b o, X.s₀.heap.get? b = some o → b ≠ X.env.locals := fun b o e => Nat.ne_of_lt (Nat.lt_of_lt_of_le (Heap.lt_size e) I.ok.above)
  have neC : ∀ b o, X.s₀.heap.get? b = some o → b ∉ X.ex → b ∉ ch := fun b o e hx hb => by
    rcases (hch b hb).1 with z | z
    · exact hx z
    · exact absurd (Nat.lt_of_lt_of_le (Heap.lt_size e) z) (Nat.lt_irrefl _)
  have cellK : ∀ x c, X.env.cells.lookup x = some c → ∀ v, s.heap.IsCell c v → h'.IsCell c v := fun x c e v ⟨o, ho, hd⟩ => by
    have nch : c ∉ ch := fun z => (hch c z).2.2.1 x c e rfl
    by_cases hc : c ∈ X.fs
    · obtain ⟨sl, q⟩ := slot c o (I.cne x c e) hc nch ho (I.freeC x c e)
      exact ⟨_, q, hd⟩
    · exact ⟨o, keep c o (I.cne x c e) hc nch ho (I.freeC x c e), hd⟩
  refine ⟨I.ok, I.os, hg, ⟨fun b o e n hb hx => ?_, fun b o e n hb hx => ?_, fun b o e n hx => ?_, fun b o e hx => ?_, fun b xs e => tups b xs (I.base.tups b xs e), fun b o xs e => frzs b o xs (I.base.frzs b o xs e), fun b ps e => ?_⟩, ?_, fun x c e => ?_, ?_, fun x c e => ?_, fun p hp => ?_, hok, I.len⟩
  · exact keep b o (neL b o e) hb (neC b o e hx) (I.base.keep b o e n hb hx) (I.base.free b o e n hx)
  · obtain ⟨sl, e1⟩ := I.base.slot b o e n hb hx
    obtain ⟨sl', e2⟩ := slot b _ (neL b o e) hb (neC b o e hx) e1 (I.base.free b o e n hx)
    exact ⟨sl', e2⟩
  · obtain ⟨o', e1⟩ := I.base.there b o e hx
    exact free b o' (neC b o e hx) e1 (I.base.free b o e n hx)
  · obtain ⟨o', e1⟩ := I.base.there b o e hx
    exact there b o' (neC b o e hx) e1
  · obtain ⟨m1, e1⟩ := I.base.tbls b ps e
    obtain ⟨m2, e2⟩ := tbls b _ e1
    exact ⟨m1 ++ m2, by rw [e2, Array.append_assoc]⟩
  · obtain ⟨m, hn, hl⟩ := I.loc
    refine ⟨m, ns m hn, fun i x v e1 e2 e3 => ?_⟩
    obtain ⟨u, r, l⟩ := hl i x v e1 e2 e3
    refine ⟨u, r, ?_⟩
    rcases l with l | ⟨k, c, e, z⟩
    · exact .inl l
    · exact .inr ⟨k, c, e, cellK x c e _ z⟩
  · obtain ⟨v, z⟩ := I.cell x c e
    exact ⟨v, cellK x c e v z⟩
  · obtain ⟨m, ⟨o, _, _, ho, _⟩, _⟩ := I.loc
    exact free _ o (fun z => (hch _ z).2.1 rfl) ho I.free
  · obtain ⟨v, o, ho, hd⟩ := I.cell x c e
    exact free c o (fun z => (hch c z).2.2.1 x c e rfl) ho (I.freeC x c e)
  · obtain ⟨e, n, ne, nf, d⟩ := I.pin p hp
    have nch : p.1 ∉ ch := fun z => (hch p.1 z).2.2.2 p hp rfl
    exact ⟨keep p.1 p.2 ne nf nch e n, free p.1 p.2 nch e n, ne, nf, d⟩
theorem Inv.un {t' : Nat} (I : Inv X pins σ H s) (u : Un X.fs [] H H' s.heap h') (hok : HOk X.prog X.w H' h') : Inv X pins σ H' { s with heap := h', toks := t' } := by
  obtain ⟨m, ⟨o, es, ep, ho, r⟩, _⟩ := id I.loc
  obtain ⟨sl, hL⟩ := u.any ho I.free (by simp)
  exact I.step (g' := s.gens) (d' := s.drawn) (ch := []) (fun _ z => nomatch z) (fun b o _ hb _ e n => u.keep b o e n hb (by simp)) (fun b o _ hb _ e n => u.slot b o e n hb (by simp)) (fun b o _ e n => u.free b o e n (by simp)) (fun b o _ e => u.there b o e (by simp)) u.tups u.frzs u.tbls (fun m' hm => by
    obtain ⟨o', es', ep', ho', r'⟩ := hm
    rw [ho] at ho'; cases ho'
    exact ⟨_, es', ep', hL, r'⟩) hok I.bare
theorem Inv.call {g' : Array GenState} {t' : Nat} {d' : Drawn} {ch : List Addr} (I : Inv X pins σ H s) (u : Un (frs X.stack) ch H H' s.heap h') (hok : HOk X.prog X.w H' h') (hg : AllBare g')
    (hch : ∀ b ∈ ch, (b ∈ X.ex ∨ X.s₀.heap.objs.size ≤ b) ∧ b ≠ X.env.locals ∧ (∀ x c, X.env.cells.lookup x = some c → c ≠ b) ∧ ∀ p ∈ X.pn ++ pins, p.1 ≠ b) :
    Inv X pins σ H' { s with heap := h', gens := g', drawn := d', toks := t' } := by
  obtain ⟨m, ⟨o, es, ep, ho, r⟩, _⟩ := id I.loc
  obtain ⟨sl, hL⟩ := u.any ho I.free fun z => (hch _ z).2.1 rfl
  exact I.step (ch := ch) hch (fun b o hL hb hc e n => u.keep b o e n (fun z => (List.mem_cons.mp (I.stkSub b z)).elim hL hb) hc) (fun b o _ _ hc e n => u.any e n hc) (fun b o hc e n => u.free b o e n hc) (fun b o hc e => u.there b o e hc) u.tups u.frzs u.tbls (fun m' hm => by
    obtain ⟨o', es', ep', ho', r'⟩ := hm
    rw [ho] at ho'; cases ho'
    exact ⟨_, es', ep', hL, r'⟩) hok hg
theorem Inv.turned {t' : Nat} {it : Addr} (I : Inv X pins σ H s) (k : ∀ b o, b ≠ it → s.heap.get? b = some o → h'.get? b = some o) (hn : H it = none) (hL : it ≠ X.env.locals)
    (h1 : it ∈ X.ex ∨ X.s₀.heap.objs.size ≤ it) (h2 : ∀ x c, X.env.cells.lookup x = some c → c ≠ it) (h3 : ∀ p ∈ X.pn ++ pins, p.1 ≠ it) : Inv X pins σ H { s with heap := h', toks := t' } := by
  have nit : ∀ b u, H b = some u → b ≠ it := fun b u e z => by rw [z, hn] at e; cases e
  refine I.step (g' := s.gens) (d' := s.drawn) (ch := [it]) (fun b hb => ?_) (fun b o _ _ hc e _ => k b o (fun z => hc (by simp [z])) e) (fun b o _ _ hc e _ => ⟨o.slots, k b o (fun z => hc (by simp [z])) e⟩) (fun _ _ _ _ n => n)
    (fun b o hc e => ⟨o, k b o (fun z => hc (by simp [z])) e⟩) (fun _ _ e => e) (fun _ _ _ e => e) (fun b ps e => ⟨#[], by rw [e]; simp⟩) (fun m hm => ?_) (fun b u e => ?_) I.bare
  · have e : b = it := by simpa using hb
    subst e
    exact ⟨h1, hL, h2, h3⟩
  · obtain ⟨o, es, ep, ho, r⟩ := hm
    exact ⟨o, es, ep, k _ o (Ne.symm hL) ho, r⟩
  · refine (I.hok b u e).stay (fun c v hc q => k c v ?_ q) (fun _ q => q) fun _ _ q => q
    rcases hc with z | z
    · rw [z]; exact nit b u e
    · exact nit c _ z
theorem Inv.tok (I : Inv X pins σ H s) (t : Nat) : Inv X pins σ H { s with toks := t } := I.un (h' := s.heap) (t' := t) Un.refl I.hok
theorem Inv.kept {t' : Nat} (I : Inv X pins σ H s) (k : ∀ b u, s.heap.get? b = some u → h'.get? b = some u) : Inv X pins σ H { s with heap := h', toks := t' } := I.un (Un.kept k) (I.hok.kept k)
theorem Inv.laid {a : Addr} {o : HO} {t' : Nat} (I : Inv X pins σ H s) (k : ∀ b u, s.heap.get? b = some u → h'.get? b = some u) (hp : s.heap.objs.size ≤ a) (new : ObjOk X.prog X.w (upd H a o) h' a o) :
    Inv X pins σ (upd H a o) { s with heap := h', toks := t' } := I.un (Un.laid k hp (I.hok.fresh hp)) (I.hok.laid k hp new)
theorem Inv.write {x e : Addr} {o : HO} {t' : Nat} (I : Inv X pins σ H s) (mu : Mut (H x)) (he : e = x ∨ H e = some (.own x)) (k : ∀ b u, b ≠ e → s.heap.get? b = some u → h'.get? b = some u) (heo : ∃ u, h'.get? e = some u)
    (new : ObjOk X.prog X.w (upd H x o) h' x o) : Inv X pins σ (upd H x o) { s with heap := h', toks := t' } := I.un (Un.write mu he k heo) (I.hok.write mu he k heo new)
theorem Inv.pins_of {pins' : List (Addr × Obj)} (I : Inv X pins σ H s) (h : ∀ p ∈ pins', s.heap.get? p.1 = some p.2 ∧ H p.1 = none ∧ p.1 ≠ X.env.locals ∧ p.1 ∉ X.fs ∧ ∀ v, p.2.data ≠ .cell v) : Inv X pins' σ H s :=
  ⟨I.ok, I.os, I.bare, I.base, I.loc, I.cell, I.free, I.freeC, fun p hp => (List.mem_append.mp hp).elim (fun z => I.pin p (List.mem_append_left _ z)) (h p), I.hok, I.len⟩
theorem nodup_ix {N : List Str} (hN : N.Nodup) {i j : Nat} {x : Str} (a : N[i]? = some x) (b : N[j]? = some x) : i = j := by
  obtain ⟨h1, e1⟩ := List.getElem?_eq_some_iff.mp a
  obtain ⟨h2, e2⟩ := List.getElem?_eq_some_iff.mp b
  exact (List.getElem_inj hN).mp (e1.trans e2.symm)
theorem store_ok2 {M : Model} {A : Around} {E : Value → Shared → Prop} {i : Nat} {x : Str} {v : V} {u : Value} {Q : Unit → Shared → Prop} (I : Inv X pins σ H s) (hN : X.N.Nodup) (hi : X.N[i]? = some x) (hx : Loc X.env.scope x) (r : RelV v u)
    (h : ∀ s', Inv X pins (σ.set i (some v)) H s' → (∃ a, Heap.SameBut a s.heap s'.heap ∧ (a = X.env.locals ∨ X.env.cells.lookup x = some a)) → Q () s') (hf : X.fn x = true ∨ X.env.scope.names.lookup x = some .local := by first | exact .inl rfl | exact .inr rfl | assumption) : wpAny M A (storeName X.env x u) Q E s := by
  obtain ⟨m, hn, hl⟩ := id I.loc
  have hcls : (X.env.scope.kind == .class || (X.env.scope.kind == .module && X.env.locals != X.env.globals)) = false := by rw [I.ok.kind]; rfl
  have hiσ : i < σ.length := by rw [I.len]; exact (List.getElem?_eq_some_iff.mp hi).1
  have cne := I.cne
  have tracked : ∀ {a : Addr} {h' : Heap}, (∃ o, s.heap.get? a = some o ∧ H a = none) → Heap.SameBut a s.heap h' → HOk X.prog X.w H h' := fun {a h'} ha hs b ob e => by
    obtain ⟨_, _, hfree⟩ := ha
    refine (I.hok b ob e).stay (fun c w' hc q => (hs.2 c ?_).trans q) (fun _ q => q) fun _ _ q => q
    rintro rfl
    rcases hc with rfl | hc
    · rw [hfree] at e; cases e
    · rw [hfree] at hc; cases hc
  rcases hx with hk | hk
  · refine wpAny_storeName_local hk hn (fun h' hn' hs => ?_) hcls
    obtain ⟨oL, _, _, hoL, _⟩ := id hn
    refine h _ ⟨I.ok, I.os, I.bare, ⟨fun b o e n hb hx => ?_, fun b o e n hb hx => ?_, I.base.free, fun b o e hx => ?_, I.base.tups, I.base.frzs, I.base.tbls⟩, ⟨_, hn', fun j y v' e1 e2 e3 => ?_⟩, fun y c e => ?_, I.free, I.freeC, fun p hp => ?_, tracked ⟨oL, hoL, I.free⟩ hs, by simpa using I.len⟩ ⟨_, hs, .inl rfl⟩
    · exact (hs.2 b (Nat.ne_of_lt (Nat.lt_of_lt_of_le (Heap.lt_size e) I.ok.above))).trans (I.base.keep b o e n hb hx)
    · obtain ⟨sl, e1⟩ := I.base.slot b o e n hb hx
      exact ⟨sl, (hs.2 b (Nat.ne_of_lt (Nat.lt_of_lt_of_le (Heap.lt_size e) I.ok.above))).trans e1⟩
    · obtain ⟨o', e1⟩ := I.base.there b o e hx
      exact ⟨o', (hs.2 b (Nat.ne_of_lt (Nat.lt_of_lt_of_le (Heap.lt_size e) I.ok.above))).trans e1⟩
    · by_cases hj : j = i
      · subst hj
        rw [hi] at e1; cases e1
        rw [List.getElem?_set_self hiσ] at e2
        cases e2
        exact ⟨u, r, .inl ⟨hk, by simp⟩⟩
      · rw [List.getElem?_set_ne (Ne.symm hj)] at e2
        obtain ⟨u', r', q⟩ := hl j y v' e1 e2 e3
        refine ⟨u', r', ?_⟩
        rcases q with ⟨k, e⟩ | ⟨k, c, e, z⟩
        · refine .inl ⟨k, ?_⟩
          have : y ≠ x := fun e => hj (nodup_ix hN e1 (e ▸ hi))
          simp [this, e]
        · exact .inr ⟨k, c, e, z.sameBut hs (cne y c e)⟩
    · obtain ⟨w', z⟩ := I.cell y c e
      exact ⟨w', z.sameBut hs (cne y c e)⟩
    · obtain ⟨e, n, ne, nf, d⟩ := I.pin p hp
      exact ⟨(hs.2 p.1 ne).trans e, n, ne, nf, d⟩
  · have hfn : X.fn x = true := by
      rcases hf with z | z
      · exact z
      · rw [z] at hk; cases hk
    obtain ⟨c, hc⟩ := I.ok.has x (.inl hk)
    obtain ⟨w', z⟩ := I.cell x c hc
    refine wpAny_storeName_cell I.ok.kind hk hc z (fun h' hc' hs => ?_)
    obtain ⟨oc, hoc, hocd⟩ := id z
    refine h { s with heap := h' } ⟨I.ok, I.os, I.bare, ⟨fun b o e n hb hx => ?_, fun b o e n hb hx => ?_, I.base.free, fun b o e hx => ?_, I.base.tups, I.base.frzs, I.base.tbls⟩, ⟨m, hn.sameBut hs (Ne.symm (cne x c hc)), fun j y v' e1 e2 e3 => ?_⟩, fun y c' e => ?_, I.free, I.freeC, fun p hp => ?_, tracked ⟨oc, hoc, I.freeC x c hc⟩ hs, by simpa using I.len⟩ ⟨c, hs, .inr hc⟩
    · exact (hs.2 b (Nat.ne_of_lt (Nat.lt_of_lt_of_le (Heap.lt_size e) (I.ok.cab x c hfn hc)))).trans (I.base.keep b o e n hb hx)
    · obtain ⟨sl, e1⟩ := I.base.slot b o e n hb hx
      exact ⟨sl, (hs.2 b (Nat.ne_of_lt (Nat.lt_of_lt_of_le (Heap.lt_size e) (I.ok.cab x c hfn hc)))).trans e1⟩
    · obtain ⟨o', e1⟩ := I.base.there b o e hx
      exact ⟨o', (hs.2 b (Nat.ne_of_lt (Nat.lt_of_lt_of_le (Heap.lt_size e) (I.ok.cab x c hfn hc)))).trans e1⟩
    · by_cases hj : j = i
      · subst hj
        rw [hi] at e1; cases e1
        rw [List.getElem?_set_self hiσ] at e2
        cases e2
        exact ⟨u, r, .inr ⟨.inl hk, c, hc, hc'⟩⟩
      · rw [List.getElem?_set_ne (Ne.symm hj)] at e2
        obtain ⟨u', r', q⟩ := hl j y v' e1 e2 e3
        refine ⟨u', r', ?_⟩
        rcases q with q | ⟨k, c', e, z'⟩
        · exact .inl q
        · refine .inr ⟨k, c', e, z'.sameBut hs ?_⟩
          rintro rfl
          exact hj (nodup_ix hN e1 (I.ok.inj _ _ _ e hc ▸ hi))
    · by_cases hcc : c' = c
      · subst hcc; exact ⟨_, hc'⟩
      · obtain ⟨w2, z2⟩ := I.cell y c' e
        exact ⟨w2, z2.sameBut hs hcc⟩
    · obtain ⟨e, n, ne, nf, d⟩ := I.pin p hp
      refine ⟨(hs.2 p.1 ?_).trans e, n, ne, nf, d⟩
      intro q
      rw [q, hoc] at e
      have q' : oc = p.2 := Option.some.inj e
      exact d w' (by rw [← q']; exact hocd)
theorem store_ok {M : Model} {A : Around} {E : Value → Shared → Prop} {i : Nat} {x : Str} {v : V} {u : Value} {Q : Unit → Shared → Prop} (I : Inv X pins σ H s) (hN : X.N.Nodup) (hi : X.N[i]? = some x) (hx : Loc X.env.scope x) (r : RelV v u)
    (h : ∀ s', Inv X pins (σ.set i (some v)) H s' → Q () s') (hf : X.fn x = true ∨ X.env.scope.names.lookup x = some .local := by first | exact .inl rfl | exact .inr rfl | assumption) : wpAny M A (storeName X.env x u) Q E s :=
  store_ok2 I hN hi hx r (fun s' I' _ => h s' I') hf
theorem Inv.call' {s' : Shared} {ch : List Addr} (I : Inv X pins σ H s) (ho : s'.os = s.os) (u : Un (frs X.stack) ch H H' s.heap s'.heap) (hok : HOk X.prog X.w H' s'.heap) (hg : AllBare s'.gens)
    (hch : ∀ b ∈ ch, (b ∈ X.ex ∨ X.s₀.heap.objs.size ≤ b) ∧ b ≠ X.env.locals ∧ (∀ x c, X.env.cells.lookup x = some c → c ≠ b) ∧ ∀ p ∈ X.pn ++ pins, p.1 ≠ b) : Inv X pins σ H' s' := by
  obtain ⟨h', g', d', t', o'⟩ := s'
  have e : o' = s.os := ho
  subst e
  exact I.call (g' := g') (t' := t') (d' := d') u hok hg hch
end
abbrev XK := Value → Option Addr → Hp → Prop
abbrev St := List (Option V)
abbrev VK := V → Hp → Prop
abbrev TE := St → Hp → VK → Prop
abbrev TT := St → Hp → (Bool → Hp → Prop) → Prop
abbrev TA := St → Hp → (List V → Hp → Prop) → Prop
structure Ends where
  nx : St → Hp → Prop
  rt : VK
  bk : St → Hp → Prop := fun _ _ => False
  ct : St → Hp → Prop := fun _ _ => False
abbrev TS := Ends → St → Hp → Prop
def EP (X : Cx) (pins : List (Addr × Obj)) (σ : St) (Q : VK) (u : Value) (s' : Shared) : Prop := ∃ v H', Inv X pins σ H' s' ∧ RelV v u ∧ Q v H'
def TP (X : Cx) (pins : List (Addr × Obj)) (σ : St) (Q : Bool → Hp → Prop) (b : Bool) (s' : Shared) : Prop := ∃ H', Inv X pins σ H' s' ∧ Q b H'
def AP (X : Cx) (pins : List (Addr × Obj)) (σ : St) (Q : List V → Hp → Prop) (us : List Value) (s' : Shared) : Prop := ∃ vs H', Inv X pins σ H' s' ∧ Vals vs us ∧ Q vs H'
def SP (X : Cx) (pins : List (Addr × Obj)) (D : Ends) (f : Flow) (s' : Shared) : Prop :=
  match f with
  | .next => ∃ σ' H', Inv X pins σ' H' s' ∧ D.nx σ' H'
  | .brk => ∃ σ' H', Inv X pins σ' H' s' ∧ D.bk σ' H'
  | .cont => ∃ σ' H', Inv X pins σ' H' s' ∧ D.ct σ' H'
  | .ret u => ∃ v σ' H', Inv X pins σ' H' s' ∧ RelV v u ∧ D.rt v H'
def PE (X : Cx) (e : Expr) (t : TE) : Prop :=
  ∀ (pins : List (Addr × Obj)) (s : Shared) (σ : St) (H : Hp) (Q : VK), Inv X pins σ H s → t σ H Q → wpAny (model X.prog X.w) X.A (eval e X.env) (EP X pins σ Q) X.xe s
def PT (X : Cx) (e : Expr) (t : TT) : Prop :=
  ∀ (pins : List (Addr × Obj)) (s : Shared) (σ : St) (H : Hp) (Q : Bool → Hp → Prop), Inv X pins σ H s → t σ H Q → wpAny (model X.prog X.w) X.A (isTrue e X.env (eval e X.env)) (TP X pins σ Q) X.xe s
def PW (X : Cx) (e : Expr) (t : TT) : Prop :=
  ∀ (whole : Sem Value) (pins : List (Addr × Obj)) (s : Shared) (σ : St) (H : Hp) (Q : Bool → Hp → Prop), Inv X pins σ H s → t σ H Q → wpAny (model X.prog X.w) X.A (isTrue e X.env whole) (TP X pins σ Q) X.xe s
theorem PW.pt {X : Cx} {e : Expr} {t : TT} (h : PW X e t) : PT X e t := h _
def PA (X : Cx) (es : List Expr) (t : TA) : Prop :=
  ∀ (pos : Pos) (pins : List (Addr × Obj)) (s : Shared) (σ : St) (H : Hp) (Q : List V → Hp → Prop), Inv X pins σ H s → t σ H Q → wpAny (model X.prog X.w) X.A (spliced (backTo pos (starEach es X.env))) (AP X pins σ Q) X.xe s
def PS (X : Cx) (st : Stmt) (t : TS) : Prop :=
  ∀ (pins : List (Addr × Obj)) (s : Shared) (σ : St) (H : Hp) (D : Ends), Inv X pins σ H s → t D σ H → wpAny (model X.prog X.w) X.A (exec st X.env) (SP X pins D) X.xe s
def PSs (X : Cx) (st : List Stmt) (t : TS) : Prop :=
  ∀ (pins : List (Addr × Obj)) (s : Shared) (σ : St) (H : Hp) (D : Ends), Inv X pins σ H s → t D σ H → wpAny (model X.prog X.w) X.A (execs st X.env) (SP X pins D) X.xe s
theorem thn {α : Type} {t : Sem α} {Q Q' : α → Shared → Prop} {M : Model} {A : Around} {E : Value → Shared → Prop} {s : Shared} (h : wpAny M A t Q E s) (hQ : ∀ a s, Q a s → Q' a s) : wpAny M A t Q' E s := wpAny_mono h hQ fun _ _ x => x
end L2
namespace L2
open PySem PySem.Spec PyProof.Rows
section
variable {X : Cx}
def tVar (i : Nat) : TE := fun σ H Q => ∃ v, σ[i]? = some (some v) ∧ Q v H
def tC (v : V) : TE := fun _ H Q => Q v H
theorem pe_var {i : Nat} {x : Str} {pos : Pos} (hN : X.N[i]? = some x) (hv : Vis X.env.scope x) (hd : (x == ("__debug__" : Str)) = false := by decide) (hcd : (x == ("__classdict__" : Str)) = false := by decide) : PE X (.Name x pos) (tVar i) := by
  intro pins s σ H Q I h
  obtain ⟨v, e, h⟩ := h
  obtain ⟨m, hn, hl⟩ := I.loc
  obtain ⟨u, r, l⟩ := hl i x v hN e hv
  have fin : EP X pins σ Q u s := ⟨v, H, I, r, h⟩
  rcases l with ⟨hk, hm⟩ | ⟨hk, c, hc, hcell⟩
  · exact wpAny_Name (wpAny_loadName_local I.ok.kind hk hn hm fin) hd
  · rcases hk with hk | hk
    · exact wpAny_Name (wpAny_loadName_cell I.ok.kind hk hc hcell fin) hd
    · exact wpAny_Name (wpAny_loadName_free I.ok.kind hk hc hcell fin hcd) hd
theorem pe_int {i j pos} : PE X (.Constant (.int i) j pos) (tC (.int i)) := fun _ _ _ H _ I h => wpAny_Constant_int ⟨.int i, H, I.tok _, ⟨_, rfl⟩, h⟩
theorem pe_bl {b j pos} : PE X (.Constant (.bool b) j pos) (tC (.bl b)) := fun _ _ _ H _ I h => Constant_bool ⟨.bl b, H, I, rfl, h⟩
theorem pe_non {j pos} : PE X (.Constant .none j pos) (tC .non) := fun _ _ _ H _ I h => Constant_none ⟨.non, H, I, rfl, h⟩
theorem pe_str {x j pos} : PE X (.Constant (.str x) j pos) (tC (.str x)) := fun _ _ _ H _ I h => Calls.Constant_str ⟨.str x, H, I.tok _, ⟨_, rfl⟩, h⟩
def Gl (X : Cx) (x : Str) : Prop := X.env.kindOf x = some .globalImplicit
theorem ld_glob {E : Value → Shared → Prop} {pins : List (Addr × Obj)} {s : Shared} {σ : St} {H : Hp} {x : Str} {u : Value} {pos : Pos} {Q : Value → Shared → Prop} (I : Inv X pins σ H s) (hg : Gl X x) (hm : X.mg x = some u) (h : Q u s)
    (hd : (x == ("__debug__" : Str)) = false := by decide) : wpAny (model X.prog X.w) X.A (eval (.Name x pos) X.env) Q E s :=
  Calls.Name_function_global I.ok.kind hg (Calls.loadGlobal_global (by rw [I.ok.glob]; exact I.mod.glob.keeps I.bk) hm h) hd
theorem ld_blt {E : Value → Shared → Prop} {pins : List (Addr × Obj)} {s : Shared} {σ : St} {H : Hp} {x : Str} {u : Value} {pos : Pos} {Q : Value → Shared → Prop} (I : Inv X pins σ H s) (hg : Gl X x) (hm : X.mg x = none) (hv : bootBuiltins x = some u) (h : Q u s)
    (hn : x ≠ "__name__" := by decide) (hd : (x == ("__debug__" : Str)) = false := by decide) : wpAny (model X.prog X.w) X.A (eval (.Name x pos) X.env) Q E s := by
  obtain ⟨mb, h1, h2⟩ := I.mod.blt
  exact Calls.Name_function_global I.ok.kind hg (Calls.loadGlobal_builtin (by rw [I.ok.glob]; exact I.mod.glob.keeps I.bk) hm (by rw [I.ok.blt]; exact h1.keeps I.bk) ((h2 x hn).trans hv) h) hd
theorem pe_glob {x : Str} {v : V} {u : Value} {pos : Pos} (hg : Gl X x) (hm : X.mg x = some u) (r : RelV v u) (hd : (x == ("__debug__" : Str)) = false := by decide) : PE X (.Name x pos) (tC v) :=
  fun _ _ _ H _ I h => ld_glob I hg hm ⟨v, H, I, r, h⟩ hd
theorem pe_bltn {x : Str} {v : V} {u : Value} {pos : Pos} (hg : Gl X x) (hm : X.mg x = none) (hv : bootBuiltins x = some u) (r : RelV v u) (hn : x ≠ "__name__" := by decide) (hd : (x == ("__debug__" : Str)) = false := by decide) : PE X (.Name x pos) (tC v) :=
  fun _ _ _ H _ I h => ld_blt I hg hm hv ⟨v, H, I, r, h⟩ hn hd
variable {a b : Expr} {ta tb : TE} {pos : Pos}
def tB (t : TE) : TT := fun σ H Q => t σ H fun x H1 => ∃ c, x = .bl c ∧ Q c H1
variable {tA tB' : TT} {rest : List Expr}
def tOr (t u : TT) : TT := fun σ H Q => t σ H fun c H1 => if c = true then Q true H1 else u σ H1 Q
def tNot (t : TT) : TT := fun σ H Q => t σ H fun c H1 => Q (!c) H1
theorem pw_or1 (ha : PT X a tA) : PW X (.BoolOp .Or [a] pos) tA := by
  intro wh pins s σ H Q I h
  refine isTrue_or (thn (ha pins s σ H Q I h) fun c s1 e => ?_)
  cases c with
  | false => exact isTrue_or_nil e
  | true => exact e
theorem pw_or (ha : PT X a tA) (hb : PW X (.BoolOp .Or (b :: rest) pos) tB') : PW X (.BoolOp .Or (a :: b :: rest) pos) (tOr tA tB') := by
  intro wh pins s σ H Q I h
  refine isTrue_or (thn (ha pins s σ H _ I h) fun c s1 ⟨H1, I1, q1⟩ => ?_)
  cases c with
  | true => exact ⟨H1, I1, q1⟩
  | false => exact hb wh pins s1 σ H1 Q I1 q1
theorem pt_not (ha : PT X a tA) : PT X (.UnaryOp .Not a pos) (tNot tA) := by
  intro pins s σ H Q I h
  exact isTrue_not (ha pins s σ H (fun c H1 => Q (!c) H1) I h)
def tAndV (ta tb : TE) : TE := fun σ H Q => ta σ H fun x H1 => ∃ c, x = .bl c ∧ if c = true then tb σ H1 Q else Q (.bl false) H1
def tNotV (ta : TE) : TE := fun σ H Q => ta σ H fun x H1 => ∃ c, x = .bl c ∧ Q (.bl (!c)) H1
theorem pe_and (ha : PE X a ta) (hb : PE X (.BoolOp .And (b :: rest) pos) tb) : PE X (.BoolOp .And (a :: b :: rest) pos) (tAndV ta tb) := by
  intro pins s σ H Q I h
  refine BoolOp_and (thn (ha pins s σ H _ I h) fun v s1 ⟨x, H1, I1, r1, q1⟩ => ?_)
  obtain ⟨c, rfl, q1⟩ := q1
  cases r1
  refine wpAny_truthy_bool ?_
  cases c with
  | true => exact hb pins s1 σ H1 Q I1 q1
  | false => exact ⟨.bl false, H1, I1, rfl, q1⟩
theorem pe_not (ha : PE X a ta) : PE X (.UnaryOp .Not a pos) (tNotV ta) := by
  intro pins s σ H Q I h
  refine UnaryOp_ (thn (ha pins s σ H _ I h) fun v s1 ⟨x, H1, I1, r1, q1⟩ => ?_)
  obtain ⟨c, rfl, q1⟩ := q1
  cases r1
  exact not_of (wpAny_truthy_bool ⟨.bl (!c), H1, I1, rfl, q1⟩)
def tIf (t : TT) (ta tb : TE) : TE := fun σ H Q => t σ H fun c H1 => if c = true then ta σ H1 Q else tb σ H1 Q
theorem pe_ifExp {c : Expr} (hc : PT X c tA) (ha : PE X a ta) (hb : PE X b tb) : PE X (.IfExp c a b pos) (tIf tA ta tb) := by
  intro pins s σ H Q I h
  refine wpAny_IfExp (thn (hc pins s σ H _ I h) fun d s1 ⟨H1, I1, q1⟩ => ?_)
  cases d with
  | true => exact ha pins s1 σ H1 Q I1 q1
  | false => exact hb pins s1 σ H1 Q I1 q1
end
end L2
namespace L2
open PySem PySem.Spec PyProof.Rows
def SqL (K : PySem.W.Frag) (H : Hp) (a : Addr) (xs : List V) : Prop :=
  Rd H a (.lst xs) ∨
    ∃ (o : Obj) (its : Array Value) (n : Nat), K.lookup a = some o ∧ o.cls = .type "list" ∧ o.dict = none ∧ o.data = .seq its n ∧ its.size ≤ sizeLine ∧ Vals xs its.toList
def SqT (K : PySem.W.Frag) (H : Hp) (a : Addr) (xs : List V) : Prop :=
  Rd H a (.tup xs) ∨
    ∃ (o : Obj) (its : Array Value) (n : Nat), K.lookup a = some o ∧ o.cls = .type "tuple" ∧ o.data = .seq its n ∧ its.size ≤ sizeLine ∧ Vals xs its.toList
def absV : Value → Option V
  | .none => some .non
  | .bool b => some (.bl b)
  | .int i _ => some (.int i)
  | .str x _ => some (.str x)
  | .bytes b _ => some (.byt b)
  | .float b _ => some (.flt b)
  | .ref a => some (.ref a)
  | .type n => some (.ty n)
  | _ => none
theorem RelV.abs {x : V} {u : Value} (r : RelV x u) : absV u = some x := by
  cases x with
  | non => cases r; rfl
  | bl _ => cases r; rfl
  | int _ => obtain ⟨t, rfl⟩ := r; rfl
  | str _ => obtain ⟨t, rfl⟩ := r; rfl
  | byt _ => obtain ⟨t, rfl⟩ := r; rfl
  | flt _ => obtain ⟨t, rfl⟩ := r; rfl
  | ref _ => cases r; rfl
  | ty _ => cases r; rfl
theorem RelV.inj {x y : V} {u : Value} (r : RelV x u) (q : RelV y u) : x = y := Option.some.inj (r.abs.symm.trans q.abs)
theorem Vals.inj : ∀ {xs ys : List V} {us : List Value}, Vals xs us → Vals ys us → xs = ys
  | _, _, _, .nil, .nil => rfl
  | _, _, _, .cons r t, .cons r' t' => by rw [r.inj r', Vals.inj t t']
section
variable {X : Cx} {pins : List (Addr × Obj)} {σ : St} {H : Hp} {s : Shared} {a : Addr} {xs ys : List V}
theorem SqL.of {K : PySem.W.Frag} (h : H a = some (.lst xs)) : SqL K H a xs := .inl (.inl h)
theorem SqT.of {K : PySem.W.Frag} (h : H a = some (.tup xs)) : SqT K H a xs := .inl (.inl h)
theorem Inv.list (I : Inv X pins σ H s) (h : SqL X.K H a xs) : ∃ its : List Value, Vals xs its ∧ PlainL s.heap a its.toArray ∧ xs.length ≤ sizeLine := by
  rcases h with h | ⟨o, its, n, hk, hc, hd, hs, hz, r⟩
  · obtain ⟨z, its, n, r, e⟩ := h.ok I.hok
    exact ⟨its, r, ⟨_, n, e, rfl, rfl, rfl⟩, z⟩
  · refine ⟨its.toList, r, ⟨o, n, I.kIn a o hk, hc, hd, by simpa using hs⟩, ?_⟩
    have e := r.length
    simp only [Array.length_toList] at e
    omega
theorem Inv.tuple (I : Inv X pins σ H s) (h : SqT X.K H a xs) : ∃ its : List Value, Vals xs its ∧ IsTup s.heap a its.toArray ∧ xs.length ≤ sizeLine := by
  rcases h with h | ⟨o, its, n, hk, hc, hs, hz, r⟩
  · obtain ⟨z, its, r, p⟩ := h.ok I.hok
    exact ⟨its, r, p, z⟩
  · refine ⟨its.toList, r, ⟨o, I.kIn a o hk, hc, n, by simpa using hs⟩, ?_⟩
    have e := r.length
    simp only [Array.length_toList] at e
    omega
theorem Inv.list_inj (I : Inv X pins σ H s) (h : SqL X.K H a xs) (h' : SqL X.K H a ys) : xs = ys := by
  obtain ⟨its, r, ⟨o, n, e, _, _, d⟩, _⟩ := I.list h
  obtain ⟨its', r', ⟨o', n', e', _, _, d'⟩, _⟩ := I.list h'
  rw [e] at e'; cases e'
  rw [d] at d'
  injection d' with d1 _
  have : its = its' := by simpa using congrArg Array.toList d1
  subst this
  exact r.inj r'
end
abbrev Cx.wish (X : Cx) (E : Value → Shared → Prop) : Cx := { X with xe := E }
abbrev Cx.nox (X : Cx) : Cx := X.wish fun _ _ => False
theorem Cx.Ok.wish {X : Cx} (ok : X.Ok) (E : Value → Shared → Prop) : (X.wish E).Ok :=
  ⟨ok.mod, ok.kind, ok.glob, ok.blt, ok.above, ok.inj, ok.has, ok.cab, ok.hd, ok.frames, ok.stk, ok.exf, ok.bs, ok.bsz, ok.noex, ok.exfs, ok.funs, ok.frf⟩
theorem Cx.Ok.unwish {X : Cx} {E : Value → Shared → Prop} (ok : (X.wish E).Ok) : X.Ok :=
  ⟨ok.mod, ok.kind, ok.glob, ok.blt, ok.above, ok.inj, ok.has, ok.cab, ok.hd, ok.frames, ok.stk, ok.exf, ok.bs, ok.bsz, ok.noex, ok.exfs, ok.funs, ok.frf⟩
section
variable {X : Cx} {pins : List (Addr × Obj)} {σ : St} {H : Hp} {s : Shared} {E : Value → Shared → Prop}
theorem Inv.wish (I : Inv X pins σ H s) (E : Value → Shared → Prop) : Inv (X.wish E) pins σ H s := ⟨I.ok.wish E, I.os, I.bare, I.base, I.loc, I.cell, I.free, I.freeC, I.pin, I.hok, I.len⟩
theorem Inv.unwish (I : Inv (X.wish E) pins σ H s) : Inv X pins σ H s := ⟨I.ok.unwish, I.os, I.bare, I.base, I.loc, I.cell, I.free, I.freeC, I.pin, I.hok, I.len⟩
theorem SP.unwish {D : Ends} {f : Flow} {s' : Shared} (h : SP (X.wish E) pins D f s') : SP X pins D f s' := by
  cases f with
  | next => obtain ⟨σ', H', I, q⟩ := h; exact ⟨σ', H', I.unwish, q⟩
  | brk => obtain ⟨σ', H', I, q⟩ := h; exact ⟨σ', H', I.unwish, q⟩
  | cont => obtain ⟨σ', H', I, q⟩ := h; exact ⟨σ', H', I.unwish, q⟩
  | ret u => obtain ⟨v, σ', H', I, r, q⟩ := h; exact ⟨v, σ', H', I.unwish, r, q⟩
theorem PE.nox {e : Expr} {t : TE} (h : PE X.nox e t) : PE X e t := fun pins s σ H Q I hw =>
  wpAny_mono (h pins s σ H Q (I.wish _) hw) (fun _ _ ⟨v, H', I', r, q⟩ => ⟨v, H', I'.unwish, r, q⟩) fun _ _ z => False.elim z
theorem PT.nox {e : Expr} {t : TT} (h : PT X.nox e t) : PT X e t := fun pins s σ H Q I hw =>
  wpAny_mono (h pins s σ H Q (I.wish _) hw) (fun _ _ ⟨H', I', q⟩ => ⟨H', I'.unwish, q⟩) fun _ _ z => False.elim z
theorem PSs.nox {st : List Stmt} {t : TS} (h : PSs X.nox st t) : PSs X st t := fun pins s σ H D I hw =>
  wpAny_mono (h pins s σ H D (I.wish _) hw) (fun _ _ q => q.unwish) fun _ _ z => False.elim z
end
section
variable {X : Cx} {st : Stmt} {rest : List Stmt} {t u : TS} {e : Expr} {te : TE} {pos : Pos}
def tNext : TS := fun D σ H => D.nx σ H
def tSeq (t u : TS) : TS := fun D σ H => t { D with nx := u D } σ H
theorem pss_nil : PSs X [] tNext := fun _ _ σ H _ I h => wpAny_execs_nil ⟨σ, H, I, h⟩
theorem pss_cons (h1 : PS X st t) (h2 : PSs X rest u) : PSs X (st :: rest) (tSeq t u) := by
  intro pins s σ H D I h
  refine wpAny_execs_cons (thn (h1 pins s σ H { D with nx := u D } I h) fun f s1 q => ?_)
  cases f with
  | next =>
    obtain ⟨σ', H', I', q⟩ := q
    exact h2 pins s1 σ' H' D I' q
  | ret v => exact q
  | brk => exact q
  | cont => exact q
theorem pss_one (h1 : PS X st t) : PSs X [st] t := by
  intro pins s σ H D I h
  refine wpAny_execs_cons (thn (h1 pins s σ H D I h) fun f s1 q => ?_)
  cases f with
  | next => exact wpAny_execs_nil q
  | ret v => exact q
  | brk => exact q
  | cont => exact q
theorem Inv.quiet {pins : List (Addr × Obj)} {σ : St} {H : Hp} {s : Shared} (I : Inv X pins σ H s) : interactive X.env = false := by simp [interactive, I.ok.kind]
def tRet (te : TE) : TS := fun D σ H => te σ H D.rt
theorem ps_ret (he : PE X e te) : PS X (.Return (some e) pos) (tRet te) := by
  intro pins s σ H D I h
  exact wpAny_Return_some (thn (he pins s σ H _ I h) fun v s1 ⟨x, H1, I1, r1, q1⟩ => ⟨x, σ, H1, I1, r1, q1⟩)
def tIfS (c : TT) (t u : TS) : TS := fun D σ H => c σ H fun b H1 => if b = true then t D σ H1 else u D σ H1
theorem ps_if {c : Expr} {a b : List Stmt} {tc : TT} (hc : PT X c tc) (ha : PSs X a t) (hb : PSs X b u) : PS X (.If c a b pos) (tIfS tc t u) := by
  intro pins s σ H D I h
  refine wpAny_If (thn (hc pins s σ H _ I h) fun d s1 ⟨H1, I1, q1⟩ => ?_)
  cases d with
  | true => exact ha pins s1 σ H1 D I1 q1
  | false => exact hb pins s1 σ H1 D I1 q1
end
abbrev TG := V → St → Hp → (St → Hp → Prop) → Prop
def PG (X : Cx) (target : Expr) (t : TG) : Prop :=
  ∀ (pins : List (Addr × Obj)) (s : Shared) (σ : St) (H : Hp) (v : V) (u : Value) (Q : St → Hp → Prop), Inv X pins σ H s → RelV v u → t v σ H Q →
    wpAny (model X.prog X.w) X.A (assign target X.env u) (fun _ s' => ∃ σ' H', Inv X pins σ' H' s' ∧ Q σ' H') X.xe s
section
variable {X : Cx} {pos : Pos}
def gName (i : Nat) : TG := fun v σ H Q => Q (σ.set i (some v)) H
theorem pg_name {i : Nat} {x : Str} (hN : X.N.Nodup) (hi : X.N[i]? = some x) (hx : Loc X.env.scope x) (hf : X.fn x = true ∨ X.env.scope.names.lookup x = some .local := by first | exact .inl rfl | exact .inr rfl | assumption) : PG X (.Name x pos) (gName i) := by
  intro pins s σ H v u Q I r h
  exact wpAny_assign_Name (store_ok I hN hi hx r (fun s' I' => ⟨_, H, I', h⟩) hf)
def tAsg (te : TE) (g : TG) : TS := fun D σ H => te σ H fun x H1 => g x σ H1 D.nx
theorem ps_set {i : Nat} {x : Str} {e : Expr} {te : TE} {pos' : Pos} (hN : X.N.Nodup) (hi : X.N[i]? = some x) (hx : Loc X.env.scope x) (he : PE X e te) (hs : swapsWith e (some (.Name x pos')) pos.line X.env = pure false := by rfl) (hf : X.fn x = true ∨ X.env.scope.names.lookup x = some .local := by first | exact .inl rfl | exact .inr rfl | assumption) :
    PS X (.Assign [.Name x pos'] e pos) (tAsg te (gName i)) := by
  intro pins s σ H D I h
  refine wpAny_Assign_Name (thn (he pins s σ H _ I h) fun v s1 ⟨y, H1, I1, r1, q1⟩ => ?_) hs
  exact store_ok I1 hN hi hx r1 (fun s2 I2 => ⟨_, H1, I2, q1⟩) hf
def tPar (i j : Nat) (ta : TA) : TS := fun D σ H => ta σ H fun vs H1 => ∃ v w, vs = [v, w] ∧ D.nx ((σ.set i (some v)).set j (some w)) H1
theorem ps_par {i j : Nat} {x y : Str} {a b : Expr} {ta : TA} {px py pt : Pos} {kt k2 pt2} (hc : X.calm = true) (hN : X.N.Nodup) (hi : X.N[i]? = some x) (hj : X.N[j]? = some y) (hij : i ≠ j)
    (hx : X.env.scope.names.lookup x = some .local) (hy : X.env.scope.names.lookup y = some .local) (ha : PA X [a, b] ta)
    (hw : swappedStores [.Tuple [.Name x px, .Name y py] kt pt] (.Tuple [a, b] k2 pt2) X.env = pure (some [x, y]))
    (hs : swapsWithSole [.Tuple [.Name x px, .Name y py] kt pt] (.Tuple [a, b] k2 pt2) pos.line X.env = pure false := by rfl) :
    PS X (.Assign [.Tuple [.Name x px, .Name y py] kt pt] (.Tuple [a, b] k2 pt2) pos) (tPar i j ta) := by
  intro pins s σ H D I h
  rw [exec_Assign_arm]
  refine wpAny_bind (wpAny_standAt ?_)
  rw [hs]
  refine wpAny_bind (wpAny_pure ?_)
  rw [if_neg (by decide)]
  refine wpAny_bind (Tuple_ (thn (ha _ pins s σ H _ I h) fun us s1 ⟨vs, H1, I1, r1, q1⟩ => ?_))
  obtain ⟨v, w, e1, q1⟩ := q1
  subst e1
  obtain ⟨u1, u2, rfl, rv, rw'⟩ : ∃ u1 u2, us = [u1, u2] ∧ RelV v u1 ∧ RelV w u2 := by
    cases r1 with
    | cons p q =>
      cases q with
      | cons p' q' =>
        cases q'
        exact ⟨_, _, rfl, p, p'⟩
  refine wpAny_newObj_type ?_ (by show 2 ≤ sizeLine; decide)
  have I2 : Inv X pins σ H1 { s1 with heap := s1.heap.push { cls := .type "tuple", data := .seq [u1, u2].toArray } } := I1.kept (t' := s1.toks) fun b o e => Heap.get?_push_of_some _ e
  rw [hw]
  refine wpAny_bind (wpAny_pure ?_)
  show wpAny (model X.prog X.w) X.A (do rule "assign.swapped-stores"; let items ← unpackItems (.ref s1.heap.objs.size) 2 none; assignInOrder [fun v => bindName X.env y v, fun v => bindName X.env x v] items.reverse; pure Flow.next) _ _ _
  refine wpAny_bind (wpAny_rule (wpAny_bind (unpackItems_tuple (items := #[u1, u2]) (I.ok.hd hc) (IsTup.new s1.heap _) fun h' hx' => ?_)))
  have I3 := I2.kept (h' := h') (t' := s1.toks) fun b o e => hx' b o (Nat.ne_of_lt (Heap.lt_size e)) e
  show wpAny _ _ (assignInOrder [fun v => bindName X.env y v, fun v => bindName X.env x v] [u2, u1] >>= fun _ => pure Flow.next) _ _ _
  refine wpAny_bind (assignInOrder_cons (wpAny_bindName (store_ok I3 hN hj (.inl hy) rw' (fun s2 I4 => ?_) (.inr hy))))
  refine assignInOrder_cons (wpAny_bindName (store_ok I4 hN hi (.inl hx) rv (fun s3 I5 => assignInOrder_nil (wpAny_pure ?_)) (.inr hx)))
  rw [List.set_comm _ _ (Ne.symm hij)] at I5
  exact ⟨_, H1, I5, q1⟩
end
section
variable {X : Cx} {pos : Pos}
def tWhile (c : TT) (tb : TS) : TS := fun D σ H => ∃ W : Nat → St → Hp → Prop, (∃ m, W m σ H) ∧ ∀ m σ H, W m σ H →
  c σ H fun b H1 => if b = true then ∃ N : St → Hp → Prop, (∀ σ' H', N σ' H' → ∃ m', m' < m ∧ W m' σ' H') ∧ tb { D with nx := N, ct := N, bk := D.nx } σ H1 else D.nx σ H1
theorem ps_while {c : Expr} {body : List Stmt} {tc : TT} {tb : TS} (hp : PassesOwn (model X.prog X.w) X.A X.env X.xe) (hc : PT X c tc) (hb : PSs X body tb) : PS X (.While c body [] pos) (tWhile tc tb) := by
  intro pins s σ H D I h
  obtain ⟨W, ⟨m0, w0⟩, turn⟩ := h
  refine wpAny_While (codeAny_whileLoop (fun n s' => ∃ σ' H', Inv X pins σ' H' s' ∧ W n σ' H') ?_ m0 ⟨σ, H, I, w0⟩)
  rintro n s1 ⟨σ1, H1, I1, w1⟩
  refine wpAny_passesOwn hp (thn (hc pins s1 σ1 H1 _ I1 (turn n σ1 H1 w1)) fun b s2 ⟨H2, I2, q2⟩ => ?_)
  cases b with
  | true =>
    obtain ⟨N, hN, q2⟩ := q2
    rw [if_pos rfl]
    refine wpAny_passesOwn hp (thn (hb pins s2 σ1 H2 _ I2 q2) fun f s3 q3 => ?_)
    cases f with
    | next =>
      obtain ⟨σ3, H3, I3, n3⟩ := q3
      obtain ⟨m', hm, w3⟩ := hN σ3 H3 n3
      exact ⟨m', hm, σ3, H3, I3, w3⟩
    | cont =>
      obtain ⟨σ3, H3, I3, n3⟩ := q3
      obtain ⟨m', hm, w3⟩ := hN σ3 H3 n3
      exact ⟨m', hm, σ3, H3, I3, w3⟩
    | brk => exact q3
    | ret v => exact q3
  | false =>
    rw [if_neg Bool.false_ne_true]
    exact wpAny_execs_nil ⟨σ1, H2, I2, q2⟩
end
structure It where
  go : Nat → Hp → Prop
  yld : Nat → Hp → V → Hp → Prop
  stop : Nat → Hp → Prop
def FpOk (X : Cx) (pins : List (Addr × Obj)) (H : Hp) (b : Addr) : Prop :=
  H b = none ∧ b ≠ X.env.locals ∧ b ∉ X.fs ∧ (b ∈ X.ex ∨ X.s₀.heap.objs.size ≤ b) ∧ (∀ x c, X.env.cells.lookup x = some c → c ≠ b) ∧ ∀ p ∈ X.pn ++ pins, p.1 ≠ b
theorem Inv.fpOk {X : Cx} {pins : List (Addr × Obj)} {σ : St} {H H' : Hp} {s : Shared} {b : Addr} (I : Inv X pins σ H s) (hb : s.heap.objs.size ≤ b) (hn : H' b = none) : FpOk X pins H' b := by
  refine ⟨hn, Nat.ne_of_gt (Nat.lt_of_lt_of_le I.lt hb), I.nofs hb, .inr (Nat.le_trans I.sz hb), fun x c e z => ?_, fun p hp z => ?_⟩
  · obtain ⟨v, q⟩ := I.cell x c e
    exact absurd (Nat.lt_of_lt_of_le q.lt (by rw [z]; exact hb)) (Nat.lt_irrefl _)
  · exact absurd (Nat.lt_of_lt_of_le (Heap.lt_size (I.pin p hp).1) (by rw [z]; exact hb)) (Nat.lt_irrefl _)
structure Turn (P : Program) (w : World) (K : PySem.W.Frag) (tg : Expr) (J : It) (fp : List Addr) (it : Addr) (tn : Nat → Heap → Prop) : Prop where
  mem : it ∈ fp
  obj : ∀ i h, tn i h → ∀ b ∈ fp, ∃ o, h.get? b = some o ∧ ∀ v, o.data ≠ .cell v
  keep : ∀ i h h', tn i h → (∀ b ∈ fp, ∀ o, h.get? b = some o → h'.get? b = some o) → tn i h'
  item : ∀ (X : Cx), X.prog = P → X.w = w → X.K = K → X.calm = true → ∀ (i : Nat) (pins : List (Addr × Obj)) (s : Shared) (σ : St) (H : Hp) (E : Value → Shared → Prop), Inv X pins σ H s → (∀ b ∈ fp, FpOk X pins H b) → tn i s.heap → J.go i H →
    wpAny (model P w) X.A (pyNext (.ref it)) (fun r s1 => ∃ u, r = some u ∧
      wpAny (model P w) X.A (letOwnedTupleGo tg (.ref it) u) (fun _ s2 => ∃ x H', Inv X pins σ H' s2 ∧ RelV x u ∧ J.yld i H x H' ∧ tn (i + 1) s2.heap ∧ ∀ b ∈ fp, H' b = none) E s1) E s
  done : ∀ (X : Cx), X.prog = P → X.w = w → X.K = K → X.calm = true → ∀ (i : Nat) (pins : List (Addr × Obj)) (s : Shared) (σ : St) (H : Hp) (E : Value → Shared → Prop), Inv X pins σ H s → (∀ b ∈ fp, FpOk X pins H b) → tn i s.heap → J.stop i H →
    wpAny (model P w) X.A (pyNext (.ref it)) (fun r s1 => r = none ∧ Inv X pins σ H s1) E s
  self : ∀ (A : Around) (i : Nat) (s : Shared) (Q : Value → Shared → Prop) (E : Value → Shared → Prop), tn i s.heap → Q (.ref it) s → wpAny (model P w) A (pyIter (.ref it)) Q E s
abbrev TI := St → Hp → (It → Hp → Prop) → Prop
def PIE (X : Cx) (pins : List (Addr × Obj)) (σ : St) (tg : Expr) (R : It → Hp → Prop) (itv : Value) (s2 : Shared) : Prop :=
  ∃ (it : Addr) (fp : List Addr) (tn : Nat → Heap → Prop) (J : It) (H' : Hp), itv = .ref it ∧ Inv X pins σ H' s2 ∧ Turn X.prog X.w X.K tg J fp it tn ∧ tn 0 s2.heap ∧ (∀ b ∈ fp, FpOk X pins H' b) ∧ R J H'
def PI (X : Cx) (tg iter : Expr) (wi : TI) : Prop :=
  ∀ (pins : List (Addr × Obj)) (s : Shared) (σ : St) (H : Hp) (R : It → Hp → Prop), Inv X pins σ H s → wi σ H R →
    wpAny (model X.prog X.w) X.A (eval iter X.env) (fun v s1 => wpAny (model X.prog X.w) X.A (pyIter v) (PIE X pins σ tg R) X.xe s1) X.xe s
theorem go_of {M : Model} {A : Around} {E : Value → Shared → Prop} {s : Shared} {tg : Expr} {it : Addr} {u : Value} {o : Obj} {n : String} {vs : Array Value} {Q : Unit → Shared → Prop} (ho : s.heap.get? it = some o) (hc : o.cls = .type n) (hd : o.data = .fields vs)
    (hn : ["enumerate", "zip", "dict_itemiterator", "dict_reverseitemiterator", "odict_iterator", "itertools.zip_longest", "itertools.pairwise"].contains n = false) (hQ : Q () s) : wpAny M A (letOwnedTupleGo tg (.ref it) u) Q E s := by
  unfold letOwnedTupleGo
  cases tg <;> first
    | exact wpAny_pure hQ
    | (cases u <;> first
        | exact wpAny_pure hQ
        | (refine wpAny_bind (wpAny_load ho ?_)
           rw [hc, hd]
           show wpAny M A (if (["enumerate", "zip", "dict_itemiterator", "dict_reverseitemiterator", "odict_iterator", "itertools.zip_longest", "itertools.pairwise"].contains n && vs[0]? == some (rawInt _)) = true then _ else _) Q E s
           rw [if_neg (by intro h; rw [hn, Bool.false_and] at h; cases h)]
           exact wpAny_pure hQ))
def Itl (K : PySem.W.Frag) (a : Addr) : It :=
  ⟨fun i H => ∃ xs x, SqL K H a xs ∧ xs[i]? = some x, fun i H x H' => H' = H ∧ ∀ xs, SqL K H a xs → xs[i]? = some x, fun i H => ∃ xs, SqL K H a xs ∧ xs.length ≤ i⟩
theorem turn_list {P : Program} {w : World} {K : PySem.W.Frag} {tg : Expr} (a it : Addr) : Turn P w K tg (Itl K a) [it] it (fun i h => h.IsListIter it a i) where
  mem := by simp
  obj := fun i h st b hb => by
    have e : b = it := by simpa using hb
    subst e
    obtain ⟨o, e, c, d⟩ := st
    exact ⟨o, e, fun v z => by rw [d] at z; cases z⟩
  keep := fun i h h' st k => st.at fun o e => k it (by simp) o e
  item := by
    intro X hP hw hK hc i pins s σ H E I hf st hg
    subst hP hw hK
    obtain ⟨xs, x, hq, hx⟩ := hg
    obtain ⟨its, rv, p, hz⟩ := I.list hq
    obtain ⟨u, hu, ru⟩ := rv.get hx
    obtain ⟨f0, f1, f2, f3, f4, f5⟩ := hf it (by simp)
    refine wpAny_pyNext_list_item st p.isList (x := u) (by simpa using hu) fun h' st' sb => ?_
    have I1 : Inv X pins σ H { s with heap := h' } := I.turned (t' := s.toks) (fun b o hb e => (sb.2 b hb).trans e) f0 f1 f3 f4 f5
    obtain ⟨o, e, c, d⟩ := id st'
    exact ⟨u, rfl, go_of (s := { s with heap := h' }) e c d (by decide) ⟨x, H, I1, ru, ⟨rfl, fun ys hy => by rw [I.list_inj hy hq]; exact hx⟩, st', fun b hb => (hf b hb).1⟩⟩
  done := by
    intro X hP hw hK hc i pins s σ H E I hf st hg
    subst hP hw hK
    obtain ⟨xs, hq, hx⟩ := hg
    obtain ⟨its, rv, p, hz⟩ := I.list hq
    obtain ⟨f0, f1, f2, f3, f4, f5⟩ := hf it (by simp)
    have hl := rv.length
    exact wpAny_pyNext_list_end (I.ok.hd hc) st p.isList (by simp; omega) fun h' eb => ⟨rfl, I.turned (t' := s.toks) (fun b o hb e => eb b o hb e) f0 f1 f3 f4 f5⟩
  self := fun _ _ _ _ _ st h => wpAny_pyIter_listiter st h
end L2
namespace L2
open PySem PySem.Spec PyProof.Rows
section
variable {X : Cx} {tg : Expr}
def iList (K : PySem.W.Frag) (tl : TE) : TI := fun σ H R => tl σ H fun x H1 => ∃ a, x = .ref a ∧ (∃ xs, SqL K H1 a xs) ∧ R (Itl K a) H1
theorem pi_list {l : Expr} {tl : TE} (hl : PE X l tl) : PI X tg l (iList X.K tl) := by
  intro pins s σ H R I h
  refine thn (hl pins s σ H _ I h) fun v s1 ⟨x, H1, I1, r1, q1⟩ => ?_
  obtain ⟨a, e, ⟨xs, hq⟩, q⟩ := q1
  subst e
  cases r1
  obtain ⟨its, rv, p, hz⟩ := I1.list hq
  refine wpAny_pyIter_list p.isList ?_
  refine ⟨s1.heap.objs.size, [s1.heap.objs.size], _, _, H1, rfl, I1.kept (t' := s1.toks) fun b o e => Heap.get?_push_of_some _ e, turn_list a _, ⟨_, Heap.get?_push_size _ rfl, rfl, rfl⟩, fun b hb => ?_, q⟩
  have e : b = s1.heap.objs.size := by simpa using hb
  subst e
  exact I1.fpOk (Nat.le_refl _) (I1.hok.fresh (Nat.le_refl _))
def tFor (wi : TI) (g : TG) (tb : TS) : TS := fun D σ H => wi σ H fun J H1 => ∃ W : Nat → Nat → St → Hp → Prop, (∃ m, W 0 m σ H1) ∧ ∀ i m σ H, W i m σ H →
  (J.stop i H ∧ D.nx σ H) ∨ (J.go i H ∧ ∃ N : St → Hp → Prop, (∀ σ' H', N σ' H' → ∃ m', m' < m ∧ W (i + 1) m' σ' H') ∧ ∀ x H', J.yld i H x H' → g x σ H' fun σ2 H2 => tb { D with nx := N, ct := N, bk := D.nx } σ2 H2)
def pinsAt (fp : List Addr) (h : Heap) : List (Addr × Obj) := fp.filterMap fun b => (h.get? b).map fun o => (b, o)
theorem mem_pinsAt {fp : List Addr} {h : Heap} {b : Addr} {o : Obj} (hb : b ∈ fp) (e : h.get? b = some o) : (b, o) ∈ pinsAt fp h := List.mem_filterMap.mpr ⟨b, hb, by rw [e]; rfl⟩
theorem of_pinsAt {fp : List Addr} {h : Heap} {p : Addr × Obj} (hp : p ∈ pinsAt fp h) : p.1 ∈ fp ∧ h.get? p.1 = some p.2 := by
  obtain ⟨b, hb, e⟩ := List.mem_filterMap.mp hp
  cases q : h.get? b with
  | none => rw [q] at e; cases e
  | some o =>
    rw [q] at e
    have e' : (b, o) = p := Option.some.inj e
    subst e'
    exact ⟨hb, q⟩
theorem Inv.pinned {pins : List (Addr × Obj)} {σ : St} {H : Hp} {s : Shared} {fp : List Addr} (I : Inv X pins σ H s) (hf : ∀ b ∈ fp, FpOk X pins H b) (ho : ∀ b ∈ fp, ∃ o, s.heap.get? b = some o ∧ ∀ v, o.data ≠ .cell v) : Inv X (pins ++ pinsAt fp s.heap) σ H s :=
  I.pins_of fun p hp => (List.mem_append.mp hp).elim (fun z => I.pin p (List.mem_append_right _ z)) fun z => by
    obtain ⟨hb, e⟩ := of_pinsAt z
    obtain ⟨f0, f1, f2, _⟩ := hf p.1 hb
    obtain ⟨o, e', d⟩ := ho p.1 hb
    rw [e] at e'; cases e'
    exact ⟨e, f0, f1, f2, d⟩
theorem Inv.unpinned {pins pl : List (Addr × Obj)} {σ : St} {H : Hp} {s : Shared} (I : Inv X (pins ++ pl) σ H s) : Inv X pins σ H s := I.pins_of fun p hp => I.pin p (List.mem_append_right _ (List.mem_append_left _ hp))
theorem ps_for {iter : Expr} {body : List Stmt} {wi : TI} {g : TG} {tb : TS} {pos : Pos} (hp : PassesOwn (model X.prog X.w) X.A X.env X.xe) (hc : X.calm = true) (hi : PI X tg iter wi) (hg : PG X tg g) (hb : PSs X body tb)
    (hs : ∀ x, foldedSetIterable iter X.env x = pure x := by intro _; rfl) : PS X (.For tg iter body [] pos) (tFor wi g tb) := by
  intro pins s σ H D I h
  refine wpAny_For (thn (hi pins s σ H _ I h) fun v s1 h1 => thn h1 fun itv s2 h2 => ?_) hs
  obtain ⟨it, fp, tn, J, H2, e, I2, T, st2, f2, W, ⟨m0, w0⟩, turn⟩ := h2
  subst e
  have stat : ∀ {H' : Hp}, (∀ b ∈ fp, H' b = none) → ∀ b ∈ fp, FpOk X pins H' b := fun hn b hb => ⟨hn b hb, (f2 b hb).2⟩
  refine codeAny_forLoop_any (fun n s' => ∃ i σ' H', Inv X pins σ' H' s' ∧ tn i s'.heap ∧ (∀ b ∈ fp, H' b = none) ∧ W i n σ' H') ?_ m0 ⟨0, σ, H2, I2, st2, fun b hb => (f2 b hb).1, w0⟩
  rintro n s3 ⟨i, σ3, H3, I3, st3, fr3, w3⟩
  rcases turn i n σ3 H3 w3 with ⟨stop, qn⟩ | ⟨go, N, hN, step⟩
  · refine wpAny_passesOwn hp (thn (T.done X rfl rfl rfl hc i pins s3 σ3 H3 X.xe I3 (stat fr3) st3 stop) fun r s4 ⟨hr, I4⟩ => ?_)
    subst hr
    exact wpAny_execs_nil ⟨σ3, H3, I4, qn⟩
  · refine wpAny_passesOwn hp (thn (T.item X rfl rfl rfl hc i pins s3 σ3 H3 X.xe I3 (stat fr3) st3 go) fun r s4 ⟨u, hr, h4⟩ => ?_)
    subst hr
    refine wpAny_passesOwn hp (thn h4 fun _ s5 ⟨x, H5, I5, r5, y5, st5, fr5⟩ => ?_)
    have I5' := I5.pinned (stat fr5) (T.obj _ _ st5)
    refine wpAny_passesOwn hp (thn (hg _ s5 σ3 H5 x u _ I5' r5 (step x H5 y5)) fun _ s6 ⟨σ6, H6, I6, q6⟩ => ?_)
    refine wpAny_passesOwn hp (thn (hb _ s6 σ6 H6 _ I6 q6) fun f s7 q7 => ?_)
    have again : ∀ {σ7 : St} {H7 : Hp}, Inv X (pins ++ pinsAt fp s5.heap) σ7 H7 s7 → N σ7 H7 → ∃ m, m < n ∧ ∃ i σ' H', Inv X pins σ' H' s7 ∧ tn i s7.heap ∧ (∀ b ∈ fp, H' b = none) ∧ W i m σ' H' := fun {σ7 H7} I7 n7 => by
      obtain ⟨m', hm, w7⟩ := hN σ7 H7 n7
      refine ⟨m', hm, i + 1, σ7, H7, I7.unpinned, T.keep _ _ _ st5 fun b hb o e => (I7.pin (b, o) (List.mem_append_right _ (List.mem_append_right _ (mem_pinsAt hb e)))).1, fun b hb => ?_, w7⟩
      obtain ⟨o, e, d⟩ := T.obj _ _ st5 b hb
      exact (I7.pin (b, o) (List.mem_append_right _ (List.mem_append_right _ (mem_pinsAt hb e)))).2.1
    cases f with
    | next => obtain ⟨σ7, H7, I7, n7⟩ := q7; exact again I7 n7
    | cont => obtain ⟨σ7, H7, I7, n7⟩ := q7; exact again I7 n7
    | brk => obtain ⟨σ7, H7, I7, q7⟩ := q7; exact ⟨σ7, H7, I7.unpinned, q7⟩
    | ret v => obtain ⟨x7, σ7, H7, I7, r7, q7⟩ := q7; exact ⟨x7, σ7, H7, I7.unpinned, r7, q7⟩
end
end L2
namespace L2
open PySem PySem.Spec PyProof.Rows
abbrev R2 := V → V → Hp → VK → Prop
def OpR (X : Cx) (f : Value → Value → Sem Value) (r : R2) : Prop :=
  ∀ (pins : List (Addr × Obj)) (s : Shared) (σ : St) (H : Hp) (x y : V) (v u : Value) (Q : VK), Inv X pins σ H s → RelV x v → RelV y u → r x y H Q →
    wpAny (model X.prog X.w) X.A (f v u) (EP X pins σ Q) X.xe s
def UnR (X : Cx) (f : Value → Sem Value) (r : V → Hp → VK → Prop) : Prop :=
  ∀ (pins : List (Addr × Obj)) (s : Shared) (σ : St) (H : Hp) (x : V) (v : Value) (Q : VK), Inv X pins σ H s → RelV x v → r x H Q →
    wpAny (model X.prog X.w) X.A (f v) (EP X pins σ Q) X.xe s
def CallR (X : Cx) (f : Value) (r : List V → Hp → VK → Prop) : Prop :=
  ∀ (pins : List (Addr × Obj)) (s : Shared) (σ : St) (H : Hp) (xs : List V) (us : List Value) (Q : VK), Inv X pins σ H s → Vals xs us → r xs H Q →
    wpAny (model X.prog X.w) X.A (call f us) (EP X pins σ Q) X.xe s
def tOp (r : R2) (ta tb : TE) : TE := fun σ H Q => ta σ H fun x H1 => tb σ H1 fun y H2 => r x y H2 Q
def tUn (r : V → Hp → VK → Prop) (ta : TE) : TE := fun σ H Q => ta σ H fun x H1 => r x H1 Q
def rI (C : Int → Int → Prop) (g : Int → Int → V) : R2 := fun x y H Q => ∃ i j, x = .int i ∧ y = .int j ∧ C i j ∧ Q (g i j) H
def rI0 (g : Int → Int → V) : R2 := fun x y H Q => ∃ i j, x = .int i ∧ y = .int j ∧ Q (g i j) H
def rU (g : Int → V) : V → Hp → VK → Prop := fun x H Q => ∃ i, x = .int i ∧ Q (g i) H
section
variable {X : Cx} {a b c : Expr} {ta tb tc : TE} {pos : Pos}
theorem binT (ha : PE X a ta) (hb : PE X b tb) {pins : List (Addr × Obj)} {s : Shared} {σ : St} {H : Hp} {R : V → V → Hp → Prop} (I : Inv X pins σ H s)
    (h : ta σ H fun x H1 => tb σ H1 fun y H2 => R x y H2) {Q : Value → Shared → Prop} {f : Value → Value → Sem Value}
    (hf : ∀ v u s2 x y H2, Inv X pins σ H2 s2 → RelV x v → RelV y u → R x y H2 → wpAny (model X.prog X.w) X.A (f v u) Q X.xe s2) :
    wpAny (model X.prog X.w) X.A (eval a X.env) (fun v s₁ => wpAny (model X.prog X.w) X.A (eval b X.env) (fun u s₂ => wpAny (model X.prog X.w) X.A (f v u) Q X.xe s₂) X.xe s₁) X.xe s := by
  refine thn (ha pins s σ H _ I h) fun v s1 ⟨x, H1, I1, r1, q1⟩ => ?_
  refine thn (hb pins s1 σ H1 _ I1 q1) fun u s2 ⟨y, H2, I2, r2, q2⟩ => ?_
  exact hf v u s2 x y H2 I2 r1 r2 q2
theorem pe_un {op : UnaryOp} {r : V → Hp → VK → Prop} (ho : UnR X (unaryOp op) r) (ha : PE X a ta) : PE X (.UnaryOp op a pos) (tUn r ta) := by
  intro pins s σ H Q I h
  exact UnaryOp_ (thn (ha pins s σ H _ I h) fun v s1 ⟨x, H1, I1, r1, q1⟩ => ho pins s1 σ H1 x v Q I1 r1 q1)
theorem opI {f : Value → Value → Sem Value} {C : Int → Int → Prop} {g : Int → Int → Int}
    (rule : ∀ (i j : Int) (t u : Tok) (s : Shared) (Q : Value → Shared → Prop) (E : Value → Shared → Prop), C i j → Q (.int (g i j) s.toks) { s with toks := s.toks + 1 } → wpAny (model X.prog X.w) X.A (f (.int i t) (.int j u)) Q E s) :
    OpR X f (rI C fun i j => .int (g i j)) := by
  intro pins s σ H x y v u Q I rx ry h
  obtain ⟨i, j, rfl, rfl, hc, q⟩ := h
  obtain ⟨t, rfl⟩ := rx
  obtain ⟨t', rfl⟩ := ry
  exact rule i j t t' s _ _ hc ⟨.int (g i j), H, I.tok _, ⟨_, rfl⟩, q⟩
theorem opI0 {f : Value → Value → Sem Value} {g : Int → Int → Int}
    (rule : ∀ (i j : Int) (t u : Tok) (s : Shared) (Q : Value → Shared → Prop) (E : Value → Shared → Prop), Q (.int (g i j) s.toks) { s with toks := s.toks + 1 } → wpAny (model X.prog X.w) X.A (f (.int i t) (.int j u)) Q E s) :
    OpR X f (rI0 fun i j => .int (g i j)) := by
  intro pins s σ H x y v u Q I rx ry h
  obtain ⟨i, j, rfl, rfl, q⟩ := h
  obtain ⟨t, rfl⟩ := rx
  obtain ⟨t', rfl⟩ := ry
  exact rule i j t t' s _ _ ⟨.int (g i j), H, I.tok _, ⟨_, rfl⟩, q⟩
theorem opB0 {f : Value → Value → Sem Value} {g : Int → Int → Bool}
    (rule : ∀ (i j : Int) (t u : Tok) (s : Shared) (Q : Value → Shared → Prop) (E : Value → Shared → Prop), Q (.bool (g i j)) s → wpAny (model X.prog X.w) X.A (f (.int i t) (.int j u)) Q E s) :
    OpR X f (rI0 fun i j => .bl (g i j)) := by
  intro pins s σ H x y v u Q I rx ry h
  obtain ⟨i, j, rfl, rfl, q⟩ := h
  obtain ⟨t, rfl⟩ := rx
  obtain ⟨t', rfl⟩ := ry
  exact rule i j t t' s _ _ ⟨.bl (g i j), H, I, rfl, q⟩
def CMul (i j : Int) : Prop := (-(2 ^ 64) < i ∧ i < 2 ^ 64) ∨ (-(2 ^ 64) < j ∧ j < 2 ^ 64)
theorem CMul.ok {i j : Int} (h : CMul i j) : IntMulOk i j := by
  rcases h with ⟨h1, h2⟩ | ⟨h1, h2⟩
  · exact .of_left (intBits_le_64 h1 h2)
  · exact .of_right (intBits_le_64 h1 h2)
theorem op_add : OpR X (binaryOp .Add) (rI0 fun i j => .int (i + j)) := opI0 fun _ _ _ _ _ _ _ q => add_int q
theorem op_sub : OpR X (binaryOp .Sub) (rI0 fun i j => .int (i - j)) := opI0 fun _ _ _ _ _ _ _ q => sub_int q
theorem op_mod : OpR X (binaryOp .Mod) (rI (fun _ j => 0 < j) fun i j => .int (i % j)) := opI fun i j _ _ _ _ _ hc q => by
  have h1 : (0 : Int) < j := hc
  exact mod_int' (by omega) (by rw [Int.fmod_eq_emod_of_nonneg i (by omega)]; exact q)
theorem unI {f : Value → Sem Value} {g : Int → Int}
    (rule : ∀ (i : Int) (t : Tok) (s : Shared) (Q : Value → Shared → Prop) (E : Value → Shared → Prop), Q (.int (g i) s.toks) { s with toks := s.toks + 1 } → wpAny (model X.prog X.w) X.A (f (.int i t)) Q E s) :
    UnR X f (rU fun i => .int (g i)) := by
  intro pins s σ H x v Q I rx h
  obtain ⟨i, rfl, q⟩ := h
  obtain ⟨t, rfl⟩ := rx
  exact rule i t s _ _ ⟨.int (g i), H, I.tok _, ⟨_, rfl⟩, q⟩
theorem un_neg : UnR X (unaryOp .USub) (rU fun i => .int (-i)) := unI fun _ _ _ _ _ q => neg_int q
end
def scal : V → V → Bool
  | .non, .non => true | .non, .int _ => true | .int _, .non => true | .non, .bl _ => true | .bl _, .non => true | .non, .str _ => true | .str _, .non => true
  | .int _, .int _ => true | .bl _, .bl _ => true | .str _, .str _ => true | .byt _, .byt _ => true
  | .int _, .str _ => true | .str _, .int _ => true | .bl _, .str _ => true | .str _, .bl _ => true
  | _, _ => false
def rEq : R2 := fun x y H Q => scal x y = true ∧ Q (.bl (decide (x = y))) H
def rNe : R2 := fun x y H Q => scal x y = true ∧ Q (.bl (!decide (x = y))) H
theorem dec_int {i j : Int} : decide (V.int i = V.int j) = (i == j) := by
  rw [Bool.eq_iff_iff]
  simp
theorem dec_bl {i j : Bool} : decide (V.bl i = V.bl j) = (i == j) := by
  rw [Bool.eq_iff_iff]
  simp
theorem dec_str {i j : Str} : decide (V.str i = V.str j) = (i == j) := by
  rw [Bool.eq_iff_iff]
  simp
theorem dec_byt {i j : Array UInt8} : decide (V.byt i = V.byt j) = (i.toList == j.toList) := by
  rw [Bool.eq_iff_iff]
  cases i
  cases j
  simp
section
variable {X : Cx} {a b c : Expr} {ta tb tc : TE} {pos : Pos}
theorem fin_bl {pins : List (Addr × Obj)} {σ : St} {H : Hp} {s : Shared} {Q : VK} {k k' : Bool} (I : Inv X pins σ H s) (q : Q (.bl k) H) (e : k = k') : EP X pins σ Q (.bool k') s := by
  subst e
  exact ⟨.bl k, H, I, rfl, q⟩
theorem op_eq : OpR X (compareOp .Eq) rEq := by
  intro pins s σ H x y v u Q I rx ry h
  obtain ⟨hs, q⟩ := h
  cases x with
  | non =>
    cases rx
    cases y with
    | non => cases ry; exact PySem.EqNone.eq_none_none (fin_bl I q (by simp))
    | bl j => cases ry; exact PySem.EqNone.eq_none_bool (fin_bl I q (by simp))
    | int j => obtain ⟨t', rfl⟩ := ry; exact PySem.EqNone.eq_none_int (fin_bl I q (by simp))
    | str j => obtain ⟨t', rfl⟩ := ry; exact PySem.EqNone.eq_none_str (fin_bl I q (by simp))
    | _ => exact absurd (show false = true from hs) Bool.false_ne_true
  | bl i =>
    cases rx
    cases y with
    | non => cases ry; exact PySem.EqNone.eq_bool_none (fin_bl I q (by simp))
    | bl j => cases ry; exact eq_bool (fin_bl I q dec_bl)
    | str j => obtain ⟨t', rfl⟩ := ry; exact PySem.EqMixed.eq_bool_str (fin_bl I q (by simp))
    | _ => exact absurd (show false = true from hs) Bool.false_ne_true
  | int i =>
    obtain ⟨t, rfl⟩ := rx
    cases y with
    | non => cases ry; exact PySem.EqNone.eq_int_none (fin_bl I q (by simp))
    | int j => obtain ⟨t', rfl⟩ := ry; exact eq_int (fin_bl I q dec_int)
    | str j => obtain ⟨t', rfl⟩ := ry; exact PySem.EqMixed.eq_int_str (fin_bl I q (by simp))
    | _ => exact absurd (show false = true from hs) Bool.false_ne_true
  | str i =>
    obtain ⟨t, rfl⟩ := rx
    cases y with
    | non => cases ry; exact PySem.EqNone.eq_str_none (fin_bl I q (by simp))
    | bl j => cases ry; exact PySem.EqMixed.eq_str_bool (fin_bl I q (by simp))
    | int j => obtain ⟨t', rfl⟩ := ry; exact PySem.EqMixed.eq_str_int (fin_bl I q (by simp))
    | str j => obtain ⟨t', rfl⟩ := ry; exact eq_str (fin_bl I q dec_str)
    | _ => exact absurd (show false = true from hs) Bool.false_ne_true
  | byt i =>
    obtain ⟨t, rfl⟩ := rx
    cases y with
    | byt j => obtain ⟨t', rfl⟩ := ry; exact PySem.W.eq_bytes (fin_bl I q dec_byt)
    | _ => exact absurd (show false = true from hs) Bool.false_ne_true
  | _ => cases y <;> exact absurd (show false = true from hs) Bool.false_ne_true
theorem op_ne : OpR X (compareOp .NotEq) rNe := by
  intro pins s σ H x y v u Q I rx ry h
  obtain ⟨hs, q⟩ := h
  cases x with
  | non =>
    cases rx
    cases y with
    | non => cases ry; exact PySem.EqNone.ne_none_none (fin_bl I q (by simp))
    | bl j => cases ry; exact PySem.EqNone.ne_none_bool (fin_bl I q (by simp))
    | int j => obtain ⟨t', rfl⟩ := ry; exact PySem.EqNone.ne_none_int (fin_bl I q (by simp))
    | str j => obtain ⟨t', rfl⟩ := ry; exact PySem.EqNone.ne_none_str (fin_bl I q (by simp))
    | _ => exact absurd (show false = true from hs) Bool.false_ne_true
  | bl i =>
    cases rx
    cases y with
    | non => cases ry; exact PySem.EqNone.ne_bool_none (fin_bl I q (by simp))
    | bl j => cases ry; exact ne_bool (fin_bl I q (congrArg not dec_bl))
    | str j => obtain ⟨t', rfl⟩ := ry; exact PySem.EqMixed.ne_bool_str (fin_bl I q (by simp))
    | _ => exact absurd (show false = true from hs) Bool.false_ne_true
  | int i =>
    obtain ⟨t, rfl⟩ := rx
    cases y with
    | non => cases ry; exact PySem.EqNone.ne_int_none (fin_bl I q (by simp))
    | int j => obtain ⟨t', rfl⟩ := ry; exact ne_int (fin_bl I q (congrArg not dec_int))
    | str j => obtain ⟨t', rfl⟩ := ry; exact PySem.EqMixed.ne_int_str (fin_bl I q (by simp))
    | _ => exact absurd (show false = true from hs) Bool.false_ne_true
  | str i =>
    obtain ⟨t, rfl⟩ := rx
    cases y with
    | non => cases ry; exact PySem.EqNone.ne_str_none (fin_bl I q (by simp))
    | bl j => cases ry; exact PySem.EqMixed.ne_str_bool (fin_bl I q (by simp))
    | int j => obtain ⟨t', rfl⟩ := ry; exact PySem.EqMixed.ne_str_int (fin_bl I q (by simp))
    | str j => obtain ⟨t', rfl⟩ := ry; exact ne_str (fin_bl I q (congrArg not dec_str))
    | _ => exact absurd (show false = true from hs) Bool.false_ne_true
  | byt i =>
    obtain ⟨t, rfl⟩ := rx
    cases y with
    | byt j => obtain ⟨t', rfl⟩ := ry; exact PySem.W.ne_bytes (fin_bl I q (congrArg not dec_byt))
    | _ => exact absurd (show false = true from hs) Bool.false_ne_true
  | _ => cases y <;> exact absurd (show false = true from hs) Bool.false_ne_true
theorem op_lt : OpR X (compareOp .Lt) (rI0 fun i j => .bl (decide (i < j))) := opB0 fun _ _ _ _ _ _ _ q => lt_int q
theorem op_le : OpR X (compareOp .LtE) (rI0 fun i j => .bl (decide (i ≤ j))) := opB0 fun _ _ _ _ _ _ _ q => le_int q
theorem op_gt : OpR X (compareOp .Gt) (rI0 fun i j => .bl (decide (j < i))) := opB0 fun _ _ _ _ _ _ _ q => gt_int q
theorem op_in_str : OpR X (compareOp .In) (fun x y H Q => ∃ i j, x = .str i ∧ y = .str j ∧ Q (.bl (!(Builtin.Str.occurrences j i 0 j.length 1).isEmpty)) H) := by
  intro pins s σ H x y v u Q I rx ry h
  obtain ⟨i, j, rfl, rfl, q⟩ := h
  obtain ⟨t, rfl⟩ := rx
  obtain ⟨t', rfl⟩ := ry
  exact in_str (fin_bl I q rfl)
theorem op_isN : OpR X (compareOp .Is) (fun x y H Q => y = .non ∧ Q (.bl (decide (x = .non))) H) := by
  intro pins s σ H x y v u Q I rx ry h
  obtain ⟨rfl, q⟩ := h
  cases ry
  refine is_none_gen (fin_bl I q ?_)
  cases x <;> first
    | (cases rx; rfl)
    | (obtain ⟨t, rfl⟩ := rx; rfl)
theorem op_notin_str : OpR X (compareOp .NotIn) (fun x y H Q => ∃ i j, x = .str i ∧ y = .str j ∧ Q (.bl (!(!(Builtin.Str.occurrences j i 0 j.length 1).isEmpty))) H) := by
  intro pins s σ H x y v u Q I rx ry h
  obtain ⟨i, j, rfl, rfl, q⟩ := h
  obtain ⟨t, rfl⟩ := rx
  obtain ⟨t', rfl⟩ := ry
  exact notIn_str (fin_bl I q rfl)
theorem OpR.or {f : Value → Value → Sem Value} {r r' : R2} (h : OpR X f r) (h' : OpR X f r') : OpR X f (fun x y H Q => r x y H Q ∨ r' x y H Q) := by
  intro pins s σ H x y v u Q I rx ry q
  rcases q with q | q
  · exact h pins s σ H x y v u Q I rx ry q
  · exact h' pins s σ H x y v u Q I rx ry q
theorem nomark (b : Expr) {op : CmpOp} (h : op ≠ .In := by decide) (h2 : op ≠ .NotIn := by decide) : behindInMarks op b = false := by
  have e1 : (op == CmpOp.In) = false := by cases op <;> first | rfl | exact absurd rfl h
  have e2 : (op == CmpOp.NotIn) = false := by cases op <;> first | rfl | exact absurd rfl h2
  cases b <;> simp [behindInMarks, e1, e2]
theorem line63 : (sizeLine : Nat) < 2 ^ 63 := by rw [sizeLine_eq]; decide
theorem op_add_str : OpR X (binaryOp .Add) (fun x y H Q => ∃ i j, x = .str i ∧ y = .str j ∧ i.length + j.length ≤ sizeLine ∧ Q (.str (i ++ j)) H) := by
  intro pins s σ H x y v u Q I rx ry h
  obtain ⟨i, j, rfl, rfl, hz, q⟩ := h
  obtain ⟨t, rfl⟩ := rx
  obtain ⟨t', rfl⟩ := ry
  exact add_str (fun t' tk => ⟨.str (i ++ j), H, I.tok _, ⟨_, rfl⟩, q⟩) hz
theorem vals1 {x : V} {us : List Value} (r : Vals [x] us) : ∃ u, us = [u] ∧ RelV x u := by
  cases r with
  | cons r1 r2 => cases r2; exact ⟨_, rfl, r1⟩
theorem vals2 {x y : V} {us : List Value} (r : Vals [x, y] us) : ∃ u w', us = [u, w'] ∧ RelV x u ∧ RelV y w' := by
  cases r with
  | cons r1 r2 =>
    cases r2 with
    | cons r3 r4 => cases r4; exact ⟨_, _, rfl, r1, r3⟩
theorem call_abs : CallR X (.builtin "abs") (fun xs H Q => ∃ i, xs = [.int i] ∧ Q (.int (if i < 0 then -i else i)) H) := by
  intro pins s σ H xs us Q I r h
  obtain ⟨i, rfl, q⟩ := h
  obtain ⟨u, rfl, t, rfl⟩ := vals1 r
  exact call_abs_int fun u tk => ⟨.int (if i < 0 then -i else i), H, I.tok _, ⟨_, rfl⟩, q⟩
theorem call_min2 (hc : X.calm = true) : CallR X (.builtin "min") (fun xs H Q => ∃ i j, xs = [.int i, .int j] ∧ Q (.int (if j < i then j else i)) H) := by
  intro pins s σ H xs us Q I r h
  obtain ⟨i, j, rfl, q⟩ := h
  obtain ⟨u, w', rfl, ⟨t, rfl⟩, ⟨t', rfl⟩⟩ := vals2 r
  refine min_two_ints (I.ok.hd hc) fun h' tk k => ⟨_, H, I.kept k, ?_, q⟩
  by_cases hj : j < i
  · rw [if_pos hj, if_pos hj]; exact ⟨_, rfl⟩
  · rw [if_neg hj, if_neg hj]; exact ⟨_, rfl⟩
theorem call_str_int : CallR X (.type "str") (fun xs H Q => ∃ i, xs = [.int i] ∧ i.natAbs.log2 < 1920 ∧ Q (.str (toString i)) H) := by
  intro pins s σ H xs us Q I r h
  obtain ⟨i, rfl, hz, q⟩ := h
  obtain ⟨u, rfl, t, rfl⟩ := vals1 r
  exact PySem.P.str_of_int hz ⟨.str _, H, I.tok _, ⟨_, rfl⟩, q⟩
end
end L2
namespace L2
open PySem PySem.Spec PyProof.Rows
structure ObjM (h : Heap) (x dx C : Addr) (mA : Str → Option Value) : Prop where
  obj : h.get? x = some (PySem.W.instObj C dx)
  ns : h.Ns1 dx mA
  ne : dx ≠ x
theorem lookIn_ns {h : Heap} {dx : Addr} {mA : Str → Option Value} (n : h.Ns1 dx mA) : ∃ od, h.get? dx = some od ∧ ∀ name, PySem.W.lookIn name od = some (mA name) := by
  obtain ⟨o, es, ep, ho, hd, hk, _, hm⟩ := n
  refine ⟨o, ho, fun name => ?_⟩
  have e := hm name
  unfold nsFind findBy at e
  rw [← Array.find?_toList] at e
  unfold PySem.W.lookIn
  rw [hd]
  dsimp only
  split
  · rename_i y q
    rw [q] at e
    exact congrArg some e
  · rename_i q
    rw [q] at e
    have a : es.toList.any (·.refKey) = false := by
      rw [List.any_eq_false]
      intro y hy
      obtain ⟨z, t, hkey⟩ := hk y (Array.mem_toList_iff.mp hy)
      simp [DictEntry.refKey, hkey]
    have a' : ¬ es.toList.any (·.refKey) = true := by rw [a]; exact Bool.false_ne_true
    rw [if_neg a']
    exact congrArg some e
theorem ObjM.look {h : Heap} {x dx C : Addr} {mA : Str → Option Value} (I : ObjM h x dx C mA) : ∃ od, PySem.W.InstAt h x (PySem.W.instObj C dx) C (some od) ∧ ∀ name, PySem.W.lookIn name od = some (mA name) :=
  let ⟨od, ho, hl⟩ := lookIn_ns I.ns
  ⟨od, ⟨I.obj, rfl, rfl, ho⟩, hl⟩
section
variable {prog : Program} {w : World} {A : Around} {E : Value → Shared → Prop} {s : Shared} {K : PySem.W.Frag} {x dx C f : Addr} {mA : Str → Option Value} {name : Str} {v : Value}
end
section
variable {P : Program} {w : World} {H H' : Hp} {h h' : Heap} {a C dx : Addr} {fs fs' : List (Str × V)}
theorem ins_get (hok : HOk P w H h) (e : H a = some (.ins C dx fs)) : ∃ mA, ObjM h a dx C mA ∧ (∀ f, RelO (fs.lookup f) (mA f)) ∧ PySem.Within mA (fs.map (·.1)) ∧ fs.length ≤ 1000 ∧ H dx = some (.own a) := by
  obtain ⟨d, z, ne, ob, mA, n, r, q⟩ := (show ObjOk P w H h a (.ins C dx fs) from hok a _ e)
  exact ⟨mA, ⟨ob, n, ne⟩, r, q, z, d⟩
end
structure Cls (K : PySem.W.Frag) (C : Addr) : Prop where
  pg : PySem.W.plainGet K C Str.empty = true
  hd : PySem.W.hasDictIn K C = true
  po : PySem.W.plainOver K C = true
  sa : PySem.W.findIn K (.ref C) "__setattr__" = some (some (.builtin "object.__setattr__"))
theorem Cls.get {K : PySem.W.Frag} {C : Addr} (c : Cls K C) (f : Str) : PySem.W.plainGet K C f = true := c.pg
structure Con (K : PySem.W.Frag) (C : Addr) (f : Str) (v : V) (u : Value) : Prop where
  at_ : PySem.W.findIn K (.ref C) f = some (some u)
  rel : RelV v u
  get : PySem.W.specialIn K u "__get__" = some none
  cp : PySem.W.copiedNames.contains f = false
structure Meth (K : PySem.W.Frag) (C : Addr) (m : Str) (f : Addr) : Prop where
  at_ : PySem.W.findIn K (.ref C) m = some (some (.ref f))
  fn : PySem.W.isFn K (.ref f) = true
  kp : PySem.W.keepIn K (.ref f) = true
section
variable {X : Cx} {pins : List (Addr × Obj)} {σ : St} {H : Hp} {s : Shared} {a C dx : Addr} {fs : List (Str × V)} {f : Str} {v : V} {A : Around} {E : Value → Shared → Prop}
end
section
variable {X : Cx} {o e value : Expr} {f : Str} {pos pos' tpos : Pos} {ta tv : TE}
end
section
variable {X : Cx} {pins : List (Addr × Obj)} {σ : St} {H : Hp} {s : Shared} {A : Around} {E : Value → Shared → Prop} {Q : Value → Shared → Prop} {c : Value} {b : Bool}
inductive TyOf (K : PySem.W.Frag) (H : Hp) : V → Value → Prop where
  | non : TyOf K H .non (.type "NoneType")
  | bl (x : Bool) : TyOf K H (.bl x) (.type "bool")
  | int (i : Int) : TyOf K H (.int i) (.type "int")
  | str (x : Str) : TyOf K H (.str x) (.type "str")
  | flt (x : UInt64) : TyOf K H (.flt x) (.type "float")
  | lst {a : Addr} {xs : List V} (e : H a = some (.lst xs)) : TyOf K H (.ref a) (.type "list")
  | frz {a : Addr} {o : Obj} {xs : List V} (e : H a = some (.frz o (.lst xs))) : TyOf K H (.ref a) (.type "list")
  | tup {a : Addr} {xs : List V} (e : H a = some (.tup xs)) : TyOf K H (.ref a) (.type "tuple")
  | dK {a : Addr} {kvs : List (Key × V)} (e : H a = some (.dK kvs)) : TyOf K H (.ref a) (.type "dict")
  | dT {a : Addr} {kvs : List (List Key × V)} (e : H a = some (.dT kvs)) : TyOf K H (.ref a) (.type "dict")
  | ins {a C dx : Addr} {fs : List (Str × V)} (e : H a = some (.ins C dx fs)) (cl : Cls K C) (ha : PySem.W.findIn K (.ref C) "__class__" = some (some (.builtin "object.__class__")))
      (hn : PySem.W.specialIn K (.builtin "object.__class__") "__get__" = some (some (.builtin "getset_descriptor.__get__"))) (htk : PySem.W.takesIn K (.builtin "object.__class__") = some true)
      (hm : PySem.W.mroIn K C (.type "object") = some true) : TyOf K H (.ref a) (.ref C)
theorem isinst_ok {x : V} {u t : Value} (I : Inv X pins σ H s) (rx : RelV x u) (ty : TyOf X.K H x t) (e : PySem.W.kitOne X.K t c = some b) (h : ∀ tk, Q (.bool b) { s with toks := tk }) :
    wpAny (model X.prog X.w) A (call (.builtin "isinstance") [u, c]) Q E s := by
  cases ty with
  | non => cases (show u = Value.none from rx); exact PySem.W.kia_one PySem.W.kitx_none I.kIn True.intro e (fun z => nomatch z) h
  | bl y => cases (show u = Value.bool y from rx); exact PySem.W.kia_one PySem.W.kitx_bool I.kIn True.intro e (fun z => nomatch z) h
  | int i => obtain ⟨t, q⟩ := (show ∃ t, u = Value.int i t from rx); cases q; exact PySem.W.kia_one PySem.W.kitx_int I.kIn True.intro e (fun z => nomatch z) h
  | str y => obtain ⟨t, q⟩ := (show ∃ t, u = Value.str y t from rx); cases q; exact PySem.W.kia_one PySem.W.kitx_str I.kIn True.intro e (fun z => nomatch z) h
  | flt y => obtain ⟨t, q⟩ := (show ∃ t, u = Value.float y t from rx); cases q; exact PySem.W.kia_one PySem.W.kitx_float I.kIn True.intro e (fun z => nomatch z) h
  | @lst a xs ea =>
    cases (show u = Value.ref a from rx)
    obtain ⟨_, _, n, _, h1⟩ := (show ObjOk X.prog X.w H s.heap a (.lst xs) from I.hok a _ ea)
    exact PySem.W.kia_one PySem.W.kitx_list I.kIn ⟨_, h1, rfl⟩ e (fun z => nomatch z) h
  | @frz a ob xs ea =>
    cases (show u = Value.ref a from rx)
    obtain ⟨_, _, _, n, _, h1⟩ := (show ObjOk X.prog X.w H s.heap a (.frz ob (.lst xs)) from I.hok a _ ea)
    exact PySem.W.kia_one PySem.W.kitx_list I.kIn ⟨_, h1, rfl⟩ e (fun z => nomatch z) h
  | @tup a xs ea =>
    cases (show u = Value.ref a from rx)
    obtain ⟨_, _, _, p⟩ := (show ObjOk X.prog X.w H s.heap a (.tup xs) from I.hok a _ ea)
    obtain ⟨o, h1, h2, _⟩ := p
    exact PySem.W.kia_one PySem.W.kitx_tuple I.kIn ⟨o, h1, h2⟩ e (fun z => nomatch z) h
  | @dK a kvs ea =>
    cases (show u = Value.ref a from rx)
    obtain ⟨_, _, vs, _, p⟩ := (show ObjOk X.prog X.w H s.heap a (.dK kvs) from I.hok a _ ea)
    obtain ⟨o, es, ep, h1, h2, _⟩ := p
    exact PySem.W.kia_one PySem.W.kitx_dict I.kIn ⟨o, h1, h2.1⟩ e (fun z => nomatch z) h
  | @dT a kvs ea =>
    cases (show u = Value.ref a from rx)
    obtain ⟨_, _, xs, _, o, es, ep, h1, h2, _⟩ := (show ObjOk X.prog X.w H s.heap a (.dT kvs) from I.hok a _ ea)
    exact PySem.W.kia_one PySem.W.kitx_dict I.kIn ⟨o, h1, h2.1⟩ e (fun z => nomatch z) h
  | @ins a C dx fs ea cl ha hn htk hm =>
    cases (show u = Value.ref a from rx)
    obtain ⟨mA, O, _⟩ := ins_get I.hok ea
    obtain ⟨od, J, _⟩ := O.look
    exact PySem.W.kia_one (PySem.W.kitx_own (cl.get _) cl.hd ha hn htk hm) I.kIn J e (fun z => nomatch z) h
end
end L2
namespace L2
open PySem PySem.Spec PyProof.Rows
structure Room (k : Nat) (A : Around) : Prop where
  hd : A.handled = none
  dp : A.depth + 3 * k + 5 < recursionLimit
  un : A.units + 16 * k + 200 < cLine
theorem Room.mono {j k : Nat} {A : Around} (r : Room k A) (h : j ≤ k) : Room j A := ⟨r.hd, by have := r.dp; omega, by have := r.un; omega⟩
theorem Room.deeper {k : Nat} {A : Around} (r : Room (k + 1) A) (env : Env) : Room k (A.deeper env) :=
  ⟨r.hd, by have := r.dp; show A.depth + 1 + 3 * k + 5 < _; omega, by have := r.un; show A.units + 3 + 16 * k + 200 < _; omega⟩
theorem Room.in1 {k : Nat} {A : Around} (r : Room (k + 1) A) : Room k A.in1 :=
  ⟨r.hd, by have := r.dp; show A.depth + 3 * k + 5 < _; omega, by have := r.un; show A.units + 1 + 16 * k + 200 < _; omega⟩
theorem Room.depth {k : Nat} {A : Around} (r : Room k A) : A.depth < recursionLimit := by have := r.dp; omega
theorem Room.units {k : Nat} {A : Around} (r : Room k A) : A.units + 64 < cLine := by have := r.un; omega
def tNil : TA := fun _ H Q => Q [] H
def tCons (ta : TE) (tr : TA) : TA := fun σ H Q => ta σ H fun x H1 => tr σ H1 fun xs H2 => Q (x :: xs) H2
section
variable {X : Cx} {e : Expr} {es : List Expr} {te : TE} {t : TA} {pos : Pos}
theorem pa_nil : PA X [] tNil := fun _ _ _ _ H Q I h => Calls.spliced_nil ⟨[], H, I, .nil, h⟩
theorem pa_cons (ha : PE X e te) (hr : PA X es t) (hs : starEach (e :: es) X.env = (false, eval e X.env) :: starEach es X.env := by rfl) : PA X (e :: es) (tCons te t) := by
  intro pos pins s σ H Q I h
  rw [hs]
  show wpAny _ _ (spliced ((false, eval e X.env) :: backTo pos (starEach es X.env))) _ _ s
  refine Calls.spliced_cons (thn (ha pins s σ H _ I h) fun u s1 ⟨x, H1, I1, r1, q1⟩ => ?_)
  exact thn (hr pos pins s1 σ H1 _ I1 q1) fun us s2 ⟨xs, H2, I2, r2, q2⟩ => ⟨x :: xs, H2, I2, .cons r1 r2, q2⟩
def tTup (t : TA) : TE := fun σ H Q => t σ H fun xs H1 => xs.length ≤ sizeLine ∧ ∀ p, H1 p = none → Q (.ref p) (upd H1 p (.tup xs))
def tLst (t : TA) : TE := fun σ H Q => t σ H fun xs H1 => xs.length ≤ sizeLine ∧ ∀ p, H1 p = none → Q (.ref p) (upd H1 p (.lst xs))
theorem pe_tup {x1} (h : PA X es t) : PE X (.Tuple es x1 pos) (tTup t) := by
  intro pins s σ H Q I hq
  refine wpAny_Tuple_spliced (thn (h pos pins s σ H _ I hq) fun us s1 ⟨xs, H1, I1, r, z, q⟩ => ⟨by rw [← r.length]; exact z, ?_⟩)
  have hf : H1 s1.heap.objs.size = none := I1.hok.fresh (Nat.le_refl _)
  refine ⟨.ref s1.heap.objs.size, upd H1 s1.heap.objs.size (.tup xs), I1.laid (t' := s1.toks) (fun b u e => Heap.get?_push_of_some _ e) (Nat.le_refl _) ?_, rfl, q _ hf⟩
  exact ⟨z, us, r, ⟨_, Heap.get?_push_size _ rfl, rfl, _, rfl⟩⟩
theorem pe_lst (h : PA X es t) : PE X (.List es pos) (tLst t) := by
  intro pins s σ H Q I hq
  refine wpAny_List_spliced (thn (h pos pins s σ H _ I hq) fun us s1 ⟨xs, H1, I1, r, z, q⟩ => ⟨by rw [← r.length]; exact z, ?_⟩)
  have hf : H1 s1.heap.objs.size = none := I1.hok.fresh (Nat.le_refl _)
  refine ⟨.ref s1.heap.objs.size, upd H1 s1.heap.objs.size (.lst xs), I1.laid (t' := s1.toks) (fun b u e => Heap.get?_push_of_some _ e) (Nat.le_refl _) ?_, rfl, q _ hf⟩
  exact ⟨z, us, 0, r, Heap.get?_push_size _ rfl⟩
end
abbrev Sp := List V → Hp → VK → XK → Prop
abbrev CXT := List Env → Hp → Shared → XK → Value → Shared → Prop
structure Env0 (P : Program) (w : World) (K : PySem.W.Frag) (mg : Str → Option Value) (base : Heap) (A : Around) (outer : List Env) (s : Shared) (H : Hp) : Prop where
  frames : A.frames = some outer
  mod : Mod K mg base
  bs : ∀ b o, base.get? b = some o → s.heap.get? b = some o ∧ H b = none
  bsz : base.objs.size ≤ s.heap.objs.size
  funs : s.heap.FunFrames base outer
  frf : ∀ b ∈ frs outer, H b = none
  hok : HOk P w H s.heap
  bare : AllBare s.gens
def CE (outer : List Env) (P : Program) (w : World) (H : Hp) (s : Shared) (Q : VK) (u : Value) (s' : Shared) : Prop :=
  ∃ v H', s'.os = s.os ∧ AllBare s'.gens ∧ Un (frs outer) [] H H' s.heap s'.heap ∧ HOk P w H' s'.heap ∧ RelV v u ∧ Q v H'
def CR (CX : CXT) (outer : List Env) (P : Program) (w : World) (H : Hp) (s : Shared) (Q : VK) (E : XK) (r : Result) (s' : Shared) : Prop :=
  match r with
  | .ok (.ret u) => CE outer P w H s Q u s'
  | .ok _ => False
  | .error e => CX outer H s E e s'
structure FnOk (P : Program) (w : World) (K : PySem.W.Frag) (mg : Str → Option Value) (base : Heap) (CX : CXT) (k : Nat) (f : Addr) (fd : FuncData) (ps : List Str) (sp : Sp) : Prop where
  len : ∀ vs H Q E, sp vs H Q E → vs.length = ps.length
  run : ∀ (A : Around) (outer : List Env) (s : Shared) (H : Hp) (args : Args) (us : List Value) (vs : List V) (Q : VK) (E : XK), Room k A → Env0 P w K mg base A outer s H → BindsTo s fd args (ps.zip us) → Vals vs us → sp vs H Q E →
    codeAny (model P w) A (.call (.ref f) args) (CR CX outer P w H s Q E) s
theorem FnOk.mono {P : Program} {w : World} {K : PySem.W.Frag} {mg : Str → Option Value} {base : Heap} {CX : CXT} {j k : Nat} {f : Addr} {fd : FuncData} {ps : List Str} {sp : Sp} (F : FnOk P w K mg base CX j f fd ps sp) (h : j ≤ k) :
    FnOk P w K mg base CX k f fd ps sp := ⟨F.len, fun A outer s H args us vs Q E hr => F.run A outer s H args us vs Q E (hr.mono h)⟩
theorem Env0.in1 {P : Program} {w : World} {K : PySem.W.Frag} {mg : Str → Option Value} {base : Heap} {A : Around} {outer : List Env} {s : Shared} {H : Hp} (e : Env0 P w K mg base A outer s H) :
    Env0 P w K mg base A.in1 outer s H := ⟨e.frames, e.mod, e.bs, e.bsz, e.funs, e.frf, e.hok, e.bare⟩
section
variable {X : Cx} {pins : List (Addr × Obj)} {σ : St} {H : Hp} {s s' : Shared}
theorem Inv.env0 (I : Inv X pins σ H s) : Env0 X.prog X.w X.K X.mg X.base X.A X.stack s H :=
  ⟨I.ok.frames, I.ok.mod, I.bs, Nat.le_trans I.ok.bsz I.sz, I.stack, I.stkFree, I.hok, I.bare⟩
theorem Inv.after {Q : VK} {u : Value} (I : Inv X pins σ H s) (h : CE X.stack X.prog X.w H s Q u s') : EP X pins σ Q u s' := by
  obtain ⟨v, H', os, bare, un, hok, r, q⟩ := h
  obtain ⟨hh, g, d, t, os'⟩ := s'
  obtain rfl : os' = s.os := os
  exact ⟨v, H', I.call (h' := hh) (g' := g) (d' := d) (t' := t) (ch := []) un hok bare (fun b z => absurd z (by simp)), r, q⟩
end
def tCall (sp : Sp) (dvs : List V) (E : XK) (t : TA) : TE := fun σ H Q => t σ H fun vs H1 => sp (vs ++ dvs) H1 Q E
def Binds (K : PySem.W.Frag) (fd : FuncData) (ps : List Str) (ds : List Value) : Prop :=
  ∀ (s : Shared) (us : List Value), K.In s.heap → (us ++ ds).length = ps.length → BindsTo s fd ⟨us, []⟩ (ps.zip (us ++ ds))
theorem Binds.all {K : PySem.W.Frag} {fd : FuncData} {ps : List Str} (h : ∀ us : List Value, us.length = ps.length → bindArgs fd ⟨us, []⟩ = pure (ps.zip us)) : Binds K fd ps [] := fun s us _ hl => by
  rw [List.append_nil] at hl ⊢
  exact .of_eq (h us hl)
def Passes (CX : CXT) (X : Cx) (E : XK) : Prop := ∀ (pins : List (Addr × Obj)) (σ : St) (H : Hp) (s : Shared) (e : Value) (s' : Shared), Inv X pins σ H s → CX X.stack H s E e s' → X.xe e s'
section
variable {X : Cx} {CX : CXT} {k : Nat} {f C : Addr} {fd : FuncData} {ps : List Str} {sp : Sp} {dvs : List V} {ds : List Value} {E : XK} {x m : Str} {p pos apos : Pos} {e o : Expr} {es : List Expr} {ta : TE} {t : TA}
theorem run_fn {pins : List (Addr × Obj)} {σ : St} {H : Hp} {s : Shared} {Q : VK} {us : List Value} {vs : List V} (F : FnOk X.prog X.w X.K X.mg X.base CX k f fd ps sp) (hr : Room k X.A) (hb : Binds X.K fd ps ds) (hd : Vals dvs ds) (hx : Passes CX X E)
    (I : Inv X pins σ H s) (r : Vals vs us) (h : sp (vs ++ dvs) H Q E) : wpAny (model X.prog X.w) X.A (call (.ref f) us) (EP X pins σ Q) X.xe s := by
  have r2 : Vals (vs ++ dvs) (us ++ ds) := r.append hd
  have hl : (us ++ ds).length = ps.length := by rw [← r2.length]; exact F.len _ _ _ _ h
  refine wpAny_call (codeAny_mono (F.run X.A X.stack s H ⟨us, []⟩ (us ++ ds) (vs ++ dvs) Q E hr I.env0 (hb s us I.kIn hl) r2 h) fun r s' hq => ?_)
  cases r with
  | error e => exact hx pins σ H s e s' I hq
  | ok fl =>
    cases fl with
    | ret u => exact I.after hq
    | next => exact False.elim hq
    | brk => exact False.elim hq
    | cont => exact False.elim hq
theorem pe_call (F : FnOk X.prog X.w X.K X.mg X.base CX k f fd ps sp) (hr : Room k X.A) (hg : Gl X x) (hm : X.mg x = some (.ref f)) (hk : PySem.W.keepIn X.K (.ref f) = true) (hb : Binds X.K fd ps ds) (hd : Vals dvs ds) (hx : Passes CX X E)
    (ha : PA X (e :: es) t) (hdb : (x == ("__debug__" : Str)) = false := by decide) (he : starEach (e :: es) X.env = (false, eval e X.env) :: starEach es X.env := by rfl) (hpl : (backTo pos (starEach es X.env)).any (·.1) = false := by rfl) :
    PE X (.Call (.Name x p) (e :: es) [] pos) (tCall sp dvs E t) := by
  intro pins s σ H Q I h
  refine wpAny_Call_Name_kw (ld_glob I hg hm ?_ hdb)
  refine PySem.W.callWith_K (h₀ := X.base) I.ok.mod.kin hk (thn (ha pos pins s σ H _ I h) fun us s1 ⟨vs, H1, I1, r, q⟩ => ⟨I1.kIn, ?_⟩) he hpl
  exact run_fn F hr hb hd hx I1 r q
structure Mk (K : PySem.W.Frag) (C f : Addr) : Prop where
  makes : PySem.W.makesIn K C = true
  init : PySem.W.findIn K (.ref C) "__init__" = some (some (.ref f))
  fn : PySem.W.isFn K (.ref f) = true
  kp : PySem.W.keepIn K (.ref C) = true
end
section
variable {X : Cx} {CX : CXT} {k : Nat} {f C : Addr} {fd : FuncData} {ps ks : List Str} {sp : Sp} {E : XK} {x m : Str} {p pos apos kpos : Pos} {e o : Expr} {es : List Expr} {kws : List Keyword} {te ta : TE} {t tk : TA} {nm : Option Str}
structure KBinds (K : PySem.W.Frag) (fd : FuncData) (ps ks : List Str) (g : List Value → List Value → List Value) (gV : List V → List V → List V) : Prop where
  to : ∀ (s : Shared) (us ws : List Value), K.In s.heap → (g us ws).length = ps.length → BindsTo s fd ⟨us, ks.zip ws⟩ (ps.zip (g us ws))
  rel : ∀ {vs : List V} {us : List Value} {zs : List V} {ws : List Value}, Vals vs us → Vals zs ws → Vals (gV vs zs) (g us ws)
variable {g : List Value → List Value → List Value} {gV : List V → List V → List V}
end
structure FnScope (N P : List Str) (sc : Scope) : Prop where
  kind : sc.kind = .function
  co : sc.isCoroutine = false
  gen : sc.isGenerator = false
  nd : N.Nodup
  pre : N.take P.length = P
  par : ∀ x ∈ P, sc.names.lookup x = some .local ∨ sc.names.lookup x = some .cell
  nofree : ∀ y ∈ sc.names, y.2 ≠ .free
theorem bindL_out {kindOf : Str → Option NameKind} {x : Str} : ∀ {binds : List (Str × Value)} {m : Str → Option Value}, (∀ v, (x, v) ∉ binds) → bindL kindOf binds m x = m x
  | [], _, _ => rfl
  | (n, v) :: r, m, h => by
    unfold bindL
    rw [bindL_out fun w hw => h w (List.mem_cons_of_mem _ hw)]
    split
    · have : x ≠ n := by rintro rfl; exact h v List.mem_cons_self
      simp [this]
    · rfl
theorem bindC_out {kindOf : Str → Option NameKind} {x : Str} : ∀ {binds : List (Str × Value)} {m : Str → Option Value}, (∀ v, (x, v) ∉ binds) → bindC kindOf binds m x = m x
  | [], _, _ => rfl
  | (n, v) :: r, m, h => by
    unfold bindC
    rw [bindC_out fun w hw => h w (List.mem_cons_of_mem _ hw)]
    split
    · rfl
    · have : x ≠ n := by rintro rfl; exact h v List.mem_cons_self
      simp [this]
theorem bindL_get {kindOf : Str → Option NameKind} {x : Str} {v : Value} : ∀ {P : List Str} {vs : List Value} {i : Nat} {m : Str → Option Value}, P.Nodup → P[i]? = some x → vs[i]? = some v → kindOf x = some .local →
    bindL kindOf (P.zip vs) m x = some v
  | [], _, _, _, _, h, _, _ => by simp at h
  | _ :: _, [], _, _, _, _, h, _ => by simp at h
  | p :: P, w :: vs, 0, m, nd, h1, h2, hk => by
    simp at h1 h2; subst h1; subst h2
    show bindL kindOf ((p, w) :: P.zip vs) m p = _
    unfold bindL
    rw [bindL_out fun v hv => (List.nodup_cons.mp nd).1 (List.of_mem_zip hv).1, if_pos hk]
    simp
  | p :: P, w :: vs, i + 1, m, nd, h1, h2, hk => by
    show bindL kindOf ((p, w) :: P.zip vs) m x = _
    unfold bindL
    exact bindL_get (i := i) (List.nodup_cons.mp nd).2 (by simpa using h1) (by simpa using h2) hk
theorem bindC_get {kindOf : Str → Option NameKind} {x : Str} {v : Value} : ∀ {P : List Str} {vs : List Value} {i : Nat} {m : Str → Option Value}, P.Nodup → P[i]? = some x → vs[i]? = some v → kindOf x ≠ some .local →
    bindC kindOf (P.zip vs) m x = some v
  | [], _, _, _, _, h, _, _ => by simp at h
  | _ :: _, [], _, _, _, _, h, _ => by simp at h
  | p :: P, w :: vs, 0, m, nd, h1, h2, hk => by
    simp at h1 h2; subst h1; subst h2
    show bindC kindOf ((p, w) :: P.zip vs) m p = _
    unfold bindC
    rw [bindC_out fun v hv => (List.nodup_cons.mp nd).1 (List.of_mem_zip hv).1, if_neg hk]
    simp
  | p :: P, w :: vs, i + 1, m, nd, h1, h2, hk => by
    show bindC kindOf ((p, w) :: P.zip vs) m x = _
    unfold bindC
    exact bindC_get (i := i) (List.nodup_cons.mp nd).2 (by simpa using h1) (by simpa using h2) hk
def start (N : List Str) (vs : List V) : St := vs.map some ++ List.replicate (N.length - vs.length) none
def cxOf (CX : CXT) (P : Program) (w : World) (K : PySem.W.Frag) (mg : Str → Option Value) (base : Heap) (N : List Str) (qual : Str) (scope : Scope) (f : Addr) (cd : Value) (A : Around) (outer : List Env) (s : Shared) (H : Hp) (E : XK) : Cx where
  prog := P
  w := w
  K := K
  mg := mg
  base := base
  A := A.deeper (envOfC qual scope s.heap.objs.size f cd)
  N := N
  s₀ := s
  H₀ := H
  env := envOfC qual scope s.heap.objs.size f cd
  outer := outer
  stack := envOfC qual scope s.heap.objs.size f cd :: outer
  ex := []
  calm := true
  fn := fun _ => true
  pn := []
  xe := fun e s' => wpAny (model P w) (A.deeper (envOfC qual scope s.heap.objs.size f cd)) (leaving (envOfC qual scope s.heap.objs.size f cd) e) (fun _ s'' => CX outer H s E e s'') (fun e' s'' => CX outer H s E e' s'') s'
theorem cell_has {sc : Scope} {n : Nat} {x : Str} (h : sc.names.lookup x = some .cell) : ∃ c, (cellsFrom n sc.names []).lookup x = some c := by
  have q := PySem.W.cellsFrom_some sc.names n [] (.inl h)
  exact Option.isSome_iff_exists.mp q
theorem inv_start {CX : CXT} {P : Program} {w : World} {K : PySem.W.Frag} {mg : Str → Option Value} {base : Heap} {N ps : List Str} {qual : Str} {scope : Scope} {f : Addr} {cd : Value} {A : Around} {outer : List Env} {s s1 : Shared} {H : Hp} {E : XK} {us : List Value} {vs : List V}
    (S : FnScope N ps scope) (hd : A.handled = none) (e0 : Env0 P w K mg base A outer s H) (hl : vs.length = ps.length) (r : Vals vs us)
    (x : InCallC s s.heap.objs.size (bindL (envOfC qual scope s.heap.objs.size f cd).kindOf (ps.zip us) fun _ => none) (cellsFrom (s.heap.objs.size + 1) scope.names []) (bindC (envOfC qual scope s.heap.objs.size f cd).kindOf (ps.zip us) fun _ => none) s1) :
    Inv (cxOf CX P w K mg base N qual scope f cd A outer s H E) [] (start N vs) H s1 := by
  have hpl : ps.length ≤ N.length := by have := congrArg List.length S.pre; rw [List.length_take] at this; omega
  obtain ⟨h1, tk, rfl, hk⟩ := x.done
  have noA : ∀ b : Addr, b ∉ (cxOf CX P w K mg base N qual scope f cd A outer s H E).ex := fun b z => absurd (show b ∈ ([] : List Addr) from z) (by simp)
  refine ⟨⟨e0.mod, S.kind, rfl, rfl, Nat.le_refl _, fun y z c h1 h2 => ?_, fun y hy => ?_, fun y c _ h => ?_, fun _ => hd, Around.frames_deeper e0.frames, .inr ⟨rfl, rfl⟩, fun b z => absurd z (noA b), e0.bs, e0.bsz, fun b _ _ => noA b, fun b z => absurd z (noA b), e0.funs, e0.frf⟩,
    rfl, e0.bare, Un.kept hk, ⟨_, x.toInCall.ns, fun i y v h1 h2 h3 => ?_⟩, fun y c h => ⟨_, x.cell y c h⟩, e0.hok.fresh (Nat.le_refl _), fun y c h => ?_, fun p hp => absurd (show p ∈ ([] : List (Addr × Obj)) from hp) (by simp), e0.hok.kept hk, ?_⟩
  · exact name_of_addr x.apart (PySem.mem_of_lookup h1) (PySem.mem_of_lookup h2)
  · have hy : scope.names.lookup y = some .cell ∨ scope.names.lookup y = some .free := hy
    rcases hy with hy | hy
    · exact cell_has hy
    · exact absurd rfl (S.nofree _ (PySem.mem_of_lookup hy))
  · exact Nat.le_of_lt (x.above y c (PySem.mem_of_lookup h))
  · have hi : i < vs.length := by
      unfold start at h2
      by_cases hi : i < vs.length
      · exact hi
      · rw [List.getElem?_append_right (by simpa using hi)] at h2
        rw [List.getElem?_replicate] at h2
        split at h2 <;> cases h2
    have ha : vs[i]? = some v := by
      unfold start at h2
      rw [List.getElem?_append_left (by simpa using hi), List.getElem?_map] at h2
      cases e : vs[i]? with
      | none => rw [e] at h2; cases h2
      | some a => rw [e] at h2; cases h2; rfl
    obtain ⟨u, hu, rv⟩ := r.get ha
    have hp : ps[i]? = some y := by
      rw [← S.pre, List.getElem?_take_of_lt (by omega)]; exact h1
    have ndP : ps.Nodup := by rw [← S.pre]; exact S.nd.sublist (List.take_sublist _ _)
    refine ⟨u, rv, ?_⟩
    rcases S.par y (List.mem_of_getElem? hp) with k | k
    · exact .inl ⟨k, bindL_get ndP hp hu k⟩
    · obtain ⟨c, e⟩ := cell_has (n := s.heap.objs.size + 1) k
      refine .inr ⟨.inl k, c, e, ?_⟩
      have q := x.cell y c e
      rw [bindC_get ndP hp hu (by show scope.names.lookup y ≠ _; rw [k]; decide)] at q
      exact q
  · exact e0.hok.fresh (Nat.le_of_lt (x.above y c (PySem.mem_of_lookup h)))
  · unfold start
    show _ = N.length
    rw [List.length_append, List.length_map, List.length_replicate]
    omega
theorem fn_of {CX : CXT} {P : Program} {w : World} {K : PySem.W.Frag} {mg : Str → Option Value} {base : Heap} {k : Nat} {f : Addr} {name qual : Str} {params : Arguments} {body : List Stmt} {scope : Scope} {dV kV doc pm cdv ct oc : Value} {an od : Option Addr}
    {osl : Array (Option Value)} {N ps : List Str} {sp : Sp} (lk : K.lookup f = some ⟨oc, od, .func (PySem.W.fnOf name qual params body scope dV kV doc pm an cdv ct), osl⟩) (hcd : PySem.W.codeIn K cdv qual = true) (S : FnScope N ps scope)
    (len : ∀ vs H Q E, sp vs H Q E → vs.length = ps.length)
    (hbody : ∀ (A : Around) (outer : List Env) (s : Shared) (H : Hp) (vs : List V) (Q : VK) (E : XK), Room k (A.deeper (envOfC qual scope s.heap.objs.size f cdv)) → sp vs H Q E →
      ∃ t, PSs (cxOf CX P w K mg base N qual scope f cdv A outer s H E) body t ∧ t { nx := fun _ H' => Q .non H', rt := Q } (start N vs) H) :
    FnOk P w K mg base CX (k + 1) f (PySem.W.fnOf name qual params body scope dV kV doc pm an cdv ct) ps sp := by
  refine ⟨len, fun A outer s H args us vs Q E hr e0 hb r hsp => ?_⟩
  have hl := len _ _ _ _ hsp
  have KX : K.In s.heap := e0.mod.kin.keeps fun b o e => (e0.bs b o e).1
  have lim : s.heap.NoLimit := e0.mod.nolimit.keeps fun b o e => (e0.bs b o e).1
  have hkind : ∀ y ∈ ps.zip us, scope.names.lookup y.1 = some .local ∨ (scope.names.lookup y.1 = some .cell ∧ ((cellsFrom (s.heap.objs.size + 1) scope.names []).lookup y.1).isSome = true) := fun ⟨n, v⟩ hy => by
    rcases S.par n (List.of_mem_zip hy).1 with q | q
    · exact .inl q
    · exact .inr ⟨q, PySem.W.cellsFrom_some _ _ _ (.inl q)⟩
  refine codeAny_call_function hr.depth (KX _ _ lk) rfl S.co S.gen rfl (PySem.W.codeRec_of KX hcd) (hb _ _ _ _ ?_)
  refine wpAny_newFunctionEnv_cells S.kind hkind fun env he s1 x => ?_
  subst he
  refine ⟨lim.keeps x.toInCall.keep, codeAny_func ?_⟩
  obtain ⟨t, ht, hq⟩ := hbody A outer s H vs Q E (hr.deeper _) hsp
  have I : Inv (cxOf CX P w K mg base N qual scope f cdv A outer s H E) [] (start N vs) H s1 := inv_start S hr.hd e0 hl r x
  refine wpAny_mono (ht [] s1 (start N vs) H _ I hq) (fun fl s' hs => ?_) fun e s' hs => hs
  have fin : ∀ {σ' : St} {H' : Hp} {v : V} {u : Value}, Inv (cxOf CX P w K mg base N qual scope f cdv A outer s H E) [] σ' H' s' → RelV v u → Q v H' → CE outer P w H s Q u s' :=
    fun {σ' H' v u} J rv q => ⟨v, H', J.os, J.bare, J.base, J.hok, rv, q⟩
  cases fl with
  | ret u =>
    obtain ⟨v, σ', H', J, rv, q⟩ := hs
    exact fin J rv q
  | next =>
    obtain ⟨σ', H', J, q⟩ := hs
    exact fin (v := V.non) (u := Value.none) J rfl q
  | brk =>
    obtain ⟨_, _, _, q⟩ := hs
    exact False.elim q
  | cont =>
    obtain ⟨_, _, _, q⟩ := hs
    exact False.elim q
end L2
namespace L2
open PySem PySem.Spec PyProof.Rows
section
variable {X : Cx} {x : Str} {p pos : Pos} {e : Expr} {es : List Expr} {t : TA} {id T : String} {r : List V → Hp → VK → Prop}
end
end L2
namespace HT
open PySem PyProof.Rows
def lexLt : List Int → List Int → Bool
  | [], [] => false
  | [], _ :: _ => true
  | _ :: _, [] => false
  | x :: xs, y :: ys => if x = y then lexLt xs ys else decide (x < y)
theorem lexLt_cons (x y : Int) (xs ys : List Int) : lexLt (x :: xs) (y :: ys) = if x = y then lexLt xs ys else decide (x < y) := rfl
theorem lexLt_nil_nil : lexLt [] [] = false := rfl
theorem lexLt_nil_cons (y : Int) (ys : List Int) : lexLt [] (y :: ys) = true := rfl
theorem lexLt_cons_nil (x : Int) (xs : List Int) : lexLt (x :: xs) [] = false := rfl
theorem eqAt_int (A : Around) (s : Shared) (a : Int) (t : Tok) (c : Int) (u : Tok) : ∃ e, SeqAt.EqAt A s (.int a t) (.int c u) e ∧ (e = true ↔ a = c) :=
  ⟨(a == c), SeqAt.EqAt.int_int a t c u, by simp⟩
theorem rcLt_int (A : Around) (s : Shared) (a : Int) (t : Tok) (c : Int) (u : Tok) (prog : Program) (w : World) (E : Value → Shared → Prop) (Q : Value → Shared → Prop) (h : Q (.bool (decide (a < c))) s) :
    wpAny (model prog w) A (richCompare .Lt (.int a t) (.int c u)) Q E s :=
  (PyProof.Rows.lt_int h : wpAny (model prog w) A (compareOp .Lt (.int a t) (.int c u)) Q E s)
section
open PySem.SeqAt
open PySem.AutoSeq1 (wpAny_loadPart')
open PySem.MeetsSeq PySem.MeetsSeq2 PySem.MeetsSeq3
theorem tuple_lt_ints (l b : Addr) (items items2 : Array Value) (n n2 : Nat) (dd dd2 : Option Addr) (sl sl2 : Array (Option Value)) (ns ms : List Int) (hi : IntsAre items.toList ns) (hj : IntsAre items2.toList ms) :
    Meets (Builtin.«tuple.__lt__» ⟨[.ref l, .ref b], []⟩)
      (fun _ R s => s.heap.get? l = some { cls := .type "tuple", dict := dd, data := .seq items n, slots := sl } ∧ s.heap.get? b = some { cls := .type "tuple", dict := dd2, data := .seq items2 n2, slots := sl2 } ∧
        R (.ok (.ret (.bool (lexLt ns ms)))) s) :=
  .of_wp fun prog w A R s h => by
    obtain ⟨hp, g, d, tk, os⟩ := s; obtain ⟨hl, hb, h⟩ := h
    have f2 := AutoSeq1.sub_tuple_tuple
    have z1 : items.size = ns.length := by rw [← hi.length]; simp
    have z2 : items2.size = ms.length := by rw [← hj.length]; simp
    wp_walk using wpAny_loadPart' hl, wpAny_loadPart' hb, wpAny_forIn_list _ (fun rest b s' => b.1 = none ∧ s' = ⟨hp, g, d, tk, os⟩ ∧ ∃ (vs ws : List Value) (ns' ms' : List Int), rest = vs.zip ws ∧
      IntsAre vs ns' ∧ IntsAre ws ms' ∧ ns'.length + items2.size = ms'.length + items.size ∧ R (.ok (.ret (.bool (lexLt ns' ms')))) ⟨hp, g, d, tk, os⟩) _
    case turn =>
      rintro ⟨y, x⟩ rest b s' ⟨hb', rfl, vs, ws, ns', ms', hz, hvi, hwi, hlen, hR⟩
      cases hvi with
      | nil => rw [List.zip_nil_left] at hz; cases hz
      | cons a t hvi' =>
        cases hwi with
        | nil => rw [List.zip_nil_right] at hz; cases hz
        | cons c u hwi' =>
          rw [List.zip_cons_cons] at hz
          injection hz with hyx hrest
          injection hyx with hy hx
          subst hy hx
          rw [lexLt_cons] at hR
          simp only [List.length_cons] at hlen
          obtain ⟨e, he, hiff⟩ := eqAt_int A.in1 ⟨hp, g, d, tk, os⟩ a t c u
          refine wpAny_bind (he prog w _ _ ?_)
          cases e with
          | true =>
            rw [if_pos (hiff.mp rfl)] at hR
            wp_walk
            exact ⟨rfl, rfl, _, _, _, _, hrest, hvi', hwi', by omega, hR⟩
          | false =>
            rw [if_neg (fun q => absurd (hiff.mpr q) Bool.false_ne_true)] at hR
            have hri := rcLt_int A.in1 ⟨hp, g, d, tk, os⟩ a t c u prog w
            wp_walk using hri
            exact ⟨_, rfl, by simpa using hR⟩
    case fin =>
      rintro ⟨b1, b2⟩ s' ⟨hb', rfl, vs, ws, ns', ms', hz, hvi, hwi, hlen, hR⟩
      simp only at hb'
      subst hb'
      have hv : lexLt ns' ms' = decide (items.size < items2.size) := by
        cases hvi with
        | nil =>
          cases hwi with
          | nil =>
            simp only [List.length_nil] at hlen
            rw [lexLt_nil_nil]
            exact (decide_eq_false (by omega)).symm
          | cons c u hw =>
            simp only [List.length_nil, List.length_cons] at hlen
            rw [lexLt_nil_cons]
            exact (decide_eq_true (by omega)).symm
        | cons a t hv =>
          cases hwi with
          | nil =>
            simp only [List.length_nil, List.length_cons] at hlen
            rw [lexLt_cons_nil]
            exact (decide_eq_false (by omega)).symm
          | cons c u hw =>
            rw [List.zip_cons_cons] at hz
            cases hz
      rw [hv] at hR
      wp_walk
      exact ⟨_, rfl, by simpa [Builtin.Tuple.tupleCompareSizes] using hR⟩
    case h =>
      exact ⟨rfl, rfl, items.toList, items2.toList, ns, ms, rfl, hi, hj, by omega, h⟩
end
section
variable {prog : Program} {w : World} {A : Around} {E : Value → Shared → Prop} {s : Shared}
theorem lt_tupInts {l b : Addr} {items items2 : Array Value} {ns ms : List Int} {Q : Value → Shared → Prop} (hl : IsTup s.heap l items) (hb : IsTup s.heap b items2) (hi : IntsAre items.toList ns) (hj : IntsAre items2.toList ms)
    (hu : A.units < cLine) (h : Q (.bool (lexLt ns ms)) s) : wpAny (model prog w) A (compareOp .Lt (.ref l) (.ref b)) Q E s := by
  obtain ⟨⟨cls, dd, data, sl⟩, ho, hc, n, hd⟩ := id hl
  obtain ⟨⟨cls2, dd2, data2, sl2⟩, ho2, hc2, n2, hd2⟩ := id hb
  simp only at hc hd hc2 hd2
  subst hc hd hc2 hd2
  exact richCompare_meets_room (op := .Lt) ⟨_, ho, rfl⟩ ⟨_, ho2, rfl⟩ PySem.F.slot_tuple_lt PySem.F.entry_tuple_lt (PySem.F.args_tuple_lt_2 _ _) (tuple_lt_ints l b items items2 n n2 dd dd2 sl sl2 ns ms hi hj)
    ⟨ho, ho2, show Value.bool (lexLt ns ms) ≠ Value.notImplemented ∧ Q (.bool (lexLt ns ms)) s from ⟨(fun x => nomatch x), h⟩⟩ hu
end
end HT
namespace L2
open PySem PySem.Spec PyProof.Rows
abbrev TO := St → Hp → (Option Int → Hp → Prop) → Prop
def PO (X : Cx) (e : Option Expr) (t : TO) : Prop :=
  ∀ (pins : List (Addr × Obj)) (s : Shared) (σ : St) (H : Hp) (Q : Option Int → Hp → Prop), Inv X pins σ H s → t σ H Q →
    wpAny (model X.prog X.w) X.A (evalPart e X.env) (fun u s' => ∃ o H', Inv X pins σ H' s' ∧ IsPart u o ∧ Q o H') X.xe s
def tNoPart : TO := fun _ H Q => Q none H
def tPart (t : TE) : TO := fun σ H Q => t σ H fun x H1 => ∃ i, x = .int i ∧ Q (some i) H1
theorem intsAre_of {ns : List Int} : ∀ {us : List Value}, Vals (ns.map V.int) us → IntsAre us ns := by
  induction ns with
  | nil => intro us r; rw [List.map_nil] at r; cases r; exact .nil
  | cons n ns ih =>
    intro us r
    rw [List.map_cons] at r
    cases r with
    | cons r1 r2 =>
      obtain ⟨t, e⟩ := r1
      subst e
      exact .cons n t (ih r2)
section
variable {X : Cx} {e : Expr} {te : TE} {lo hi : Option Expr} {tl th : TO} {pos p2 : Pos}
theorem po_none : PO X none tNoPart := by
  intro pins s σ H Q I h
  rw [evalPart_none]
  exact wpAny_pure ⟨none, H, I, .none, h⟩
theorem po_some (h : PE X e te) : PO X (some e) (tPart te) := by
  intro pins s σ H Q I hw
  rw [evalPart_some]
  refine thn (h pins s σ H _ I hw) fun u s1 ⟨x, H1, I1, r1, q1⟩ => ?_
  obtain ⟨i, rfl, q⟩ := q1
  obtain ⟨t, rfl⟩ := r1
  exact ⟨some i, H1, I1, .int i t, q⟩
def SlR (X : Cx) (r : V → Option Int → Option Int → Hp → VK → Prop) : Prop :=
  ∀ (pins : List (Addr × Obj)) (s : Shared) (σ : St) (H : Hp) (x : V) (v vl vu : Value) (lo hi : Option Int) (sl : Addr) (Q : VK), Inv X pins σ H s → RelV x v → s.heap.IsSliceOf sl vl vu .none → IsPart vl lo → IsPart vu hi → r x lo hi H Q →
    ∃ T id, typeLookup (.type T) "__getitem__" = pure (some (.builtin id)) ∧ s.TypeIs v T ∧ wpAny (model X.prog X.w) X.A (getItem v (.ref sl)) (EP X pins σ Q) X.xe s
theorem SlR.or {r r' : V → Option Int → Option Int → Hp → VK → Prop} (h : SlR X r) (h' : SlR X r') : SlR X (fun x lo hi H Q => r x lo hi H Q ∨ r' x lo hi H Q) := by
  intro pins s σ H x v vl vu lo hi sl Q I rx hs pl pu q
  rcases q with q | q
  · exact h pins s σ H x v vl vu lo hi sl Q I rx hs pl pu q
  · exact h' pins s σ H x v vl vu lo hi sl Q I rx hs pl pu q
def tSl (r : V → Option Int → Option Int → Hp → VK → Prop) (te : TE) (tl th : TO) : TE := fun σ H Q => te σ H fun x H1 => tl σ H1 fun l H2 => th σ H2 fun u H3 => r x l u H3 Q
theorem pe_slice {r : V → Option Int → Option Int → Hp → VK → Prop} (hr : SlR X r) (he : PE X e te) (hl : PO X lo tl) (hu : PO X hi th) : PE X (.Subscript e (.Slice lo hi none p2) pos) (tSl r te tl th) := by
  intro pins s σ H Q I h
  refine Subscript_ (thn (he pins s σ H _ I h) fun v s1 ⟨x, H1, I1, r1, q1⟩ => ?_)
  refine wpAny_Slice (thn (hl pins s1 σ H1 _ I1 q1) fun vl s2 ⟨l, H2, I2, pl, q2⟩ => thn (hu pins s2 σ H2 _ I2 q2) fun vu s3 ⟨u, H3, I3, pu, q3⟩ => ?_)
  rw [evalPart_none]
  refine wpAny_pure ?_
  have I4 : Inv X pins σ H3 { s3 with heap := s3.heap.push { cls := .type "slice", data := .fields #[vl, vu, .none] } } := I3.kept (t' := s3.toks) fun b ob q => Heap.get?_push_of_some _ q
  obtain ⟨T, id, hT, ht, hg⟩ := hr pins { s3 with heap := s3.heap.push { cls := .type "slice", data := .fields #[vl, vu, .none] } } σ H3 x v vl vu l u s3.heap.objs.size Q I4 r1 (Heap.IsSliceOf.new ..) pl pu q3
  show wpAny (model X.prog X.w) X.A (subscriptTail e (.Slice lo hi none p2) v (.ref s3.heap.objs.size)) (EP X pins σ Q) X.xe { s3 with heap := s3.heap.push { cls := .type "slice", data := .fields #[vl, vu, .none] } }
  exact tail_any (ops := [.ref s3.heap.objs.size, v]) ht hT hg (by with_unfolding_all rfl)
def rLtT (K : PySem.W.Frag) : R2 := fun x y H Q => ∃ a b ns ms, x = .ref a ∧ y = .ref b ∧ SqT K H a (ns.map V.int) ∧ SqT K H b (ms.map V.int) ∧ Q (.bl (HT.lexLt ns ms)) H
end
end L2
namespace L2
open PySem PySem.Spec PyProof.Rows
def ixN (n : Nat) (i : Int) : Option Nat := if 0 ≤ i then (if i < n then some i.toNat else none) else if -(n : Int) ≤ i then some (i + n).toNat else none
def atI {α : Type} (xs : List α) (i : Int) : Option α := (ixN xs.length i).bind fun j => xs[j]?
theorem ixN_seq {n : Nat} {i : Int} {j : Nat} (h : ixN n i = some j) : seqIndex? i n = some j ∧ j < n ∧ -(n : Int) ≤ i ∧ i < n := by
  unfold ixN at h
  by_cases h0 : 0 ≤ i
  · rw [if_pos h0] at h
    by_cases h1 : i < n
    · rw [if_pos h1] at h
      have e : i.toNat = j := Option.some.inj h
      exact ⟨by rw [seqIndex_of h0 h1, e], by omega, by omega, h1⟩
    · rw [if_neg h1] at h; cases h
  · rw [if_neg h0] at h
    by_cases h1 : -(n : Int) ≤ i
    · rw [if_pos h1] at h
      have e : (i + n).toNat = j := Option.some.inj h
      exact ⟨by rw [seqIndex_neg (by omega) h1, e], by omega, h1, by omega⟩
    · rw [if_neg h1] at h; cases h
theorem atI_get {α : Type} {xs : List α} {i : Int} {v : α} (h : atI xs i = some v) : ∃ j, seqIndex? i xs.length = some j ∧ xs[j]? = some v ∧ j < xs.length ∧ -(xs.length : Int) ≤ i ∧ i < xs.length := by
  unfold atI at h
  cases e : ixN xs.length i with
  | none => rw [e] at h; cases h
  | some j =>
    rw [e] at h
    obtain ⟨h1, h2, h3, h4⟩ := ixN_seq e
    exact ⟨j, h1, h, h2, h3, h4⟩
theorem atI_nat {α : Type} {xs : List α} {j : Nat} {v : α} (h : xs[j]? = some v) : atI xs (j : Int) = some v := by
  have hj : j < xs.length := (List.getElem?_eq_some_iff.mp h).1
  have e : ixN xs.length (j : Int) = some j := by
    unfold ixN
    rw [if_pos (by omega), if_pos (by omega)]; simp
  unfold atI; rw [e]; exact h
def PlainIx (b : Expr) : Prop := ∀ o i, subscripted b false o i = operate [o, i] (getItem o i)
def IxR (X : Cx) (r : R2) : Prop :=
  ∀ (value slice : Expr) (pins : List (Addr × Obj)) (s : Shared) (σ : St) (H : Hp) (x y : V) (v u : Value) (Q : VK), Inv X pins σ H s → RelV x v → RelV y u → r x y H Q →
    subscripted slice false v u = operate [v, u] (getItem v u) → wpAny (model X.prog X.w) X.A (subscriptTail value slice v u) (EP X pins σ Q) X.xe s
def MtR (X : Cx) (id : String) (r : V → List V → Hp → VK → Prop) : Prop :=
  ∀ (pins : List (Addr × Obj)) (s : Shared) (σ : St) (H : Hp) (x : V) (xs : List V) (v : Value) (us : List Value) (Q : VK), Inv X pins σ H s → RelV x v → Vals xs us → r x xs H Q →
    wpAny (model X.prog X.w) X.A (call (.builtin id) (v :: us)) (EP X pins σ Q) X.xe s
section
variable {X : Cx} {a b : Expr} {ta tb : TE} {pos : Pos}
theorem IxR.or {r r' : R2} (h : IxR X r) (h' : IxR X r') : IxR X (fun x y H Q => r x y H Q ∨ r' x y H Q) := by
  intro value slice pins s σ H x y v u Q I rx ry q hs
  rcases q with q | q
  · exact h value slice pins s σ H x y v u Q I rx ry q hs
  · exact h' value slice pins s σ H x y v u Q I rx ry q hs
theorem MtR.or {id : String} {r r' : V → List V → Hp → VK → Prop} (h : MtR X id r) (h' : MtR X id r') : MtR X id (fun x xs H Q => r x xs H Q ∨ r' x xs H Q) := by
  intro pins s σ H x xs v us Q I rx rs q
  rcases q with q | q
  · exact h pins s σ H x xs v us Q I rx rs q
  · exact h' pins s σ H x xs v us Q I rx rs q
theorem pe_ix {r : R2} (hr : IxR X r) (ha : PE X a ta) (hb : PE X b tb) (hs : PlainIx b) : PE X (.Subscript a b pos) (tOp r ta tb) := by
  intro pins s σ H Q I h
  exact Subscript_ (binT ha hb I h fun v u s2 x y H2 I2 rx ry q => hr a b pins s2 σ H2 x y v u Q I2 rx ry q (hs _ _))
def rIxL (K : PySem.W.Frag) : R2 := fun x y H Q => ∃ p xs i v, x = .ref p ∧ y = .int i ∧ SqL K H p xs ∧ atI xs i = some v ∧ Q v H
def rIxT (K : PySem.W.Frag) : R2 := fun x y H Q => ∃ p xs i v, x = .ref p ∧ y = .int i ∧ SqT K H p xs ∧ atI xs i = some v ∧ Q v H
def rIxS : R2 := fun x y H Q => ∃ z i c, x = .str z ∧ y = .int i ∧ z.length ≤ sizeLine ∧ atI z.cps.toList i = some c ∧ Q (.str ⟨#[c]⟩) H
theorem ix_list : IxR X (rIxL X.K) := by
  intro value slice pins s σ H x y v u Q I rx ry h hs
  obtain ⟨p, xs, i, z, rfl, rfl, hq, he, q⟩ := h
  cases rx
  obtain ⟨t, rfl⟩ := ry
  obtain ⟨its, r, pl, hz⟩ := I.list hq
  obtain ⟨j, h1, h2, h3, h4, h5⟩ := atI_get he
  obtain ⟨w, ew, rw'⟩ := r.get h2
  have hl := r.length
  have hn := line63
  have fin : EP X pins σ Q w s := ⟨z, H, I, rw', q⟩
  by_cases h0 : 0 ≤ i
  · have hj : i.toNat = j := by
      rw [seqIndex_of h0 h5] at h1
      exact Option.some.inj h1
    exact item_listR pl.isList h0 (by omega) (by rw [hj]; simpa using ew) fin hs
  · have hj : (i + (its.toArray.size : Int)).toNat = j := by
      rw [seqIndex_neg (by omega) h4] at h1
      rw [List.size_toArray, ← hl]
      exact Option.some.inj h1
    exact subscriptTail_builtinR (x := w) pl.isList.typeIs slot_list_getitem.lookup
      (wpAny_getItem_list_neg (Q := fun r s' => r = w ∧ EP X pins σ Q r s') pl.isList (by omega) (by rw [List.size_toArray] <;> omega) (by omega) (by rw [hj]; simpa using ew) ⟨rfl, fin⟩) hs
theorem ix_tup : IxR X (rIxT X.K) := by
  intro value slice pins s σ H x y v u Q I rx ry h hs
  obtain ⟨p, xs, i, z, rfl, rfl, hq, he, q⟩ := h
  cases rx
  obtain ⟨t, rfl⟩ := ry
  obtain ⟨its, r, pl, hz⟩ := I.tuple hq
  obtain ⟨j, h1, h2, h3, h4, h5⟩ := atI_get he
  obtain ⟨w, ew, rw'⟩ := r.get h2
  have hl := r.length
  have hn := line63
  have fin : EP X pins σ Q w s := ⟨z, H, I, rw', q⟩
  exact subscriptTail_builtinR (x := w) pl.typeIs slot_tuple_getitem.lookup
    (getItem_tuple (j := j) (Q := fun r s' => r = w ∧ EP X pins σ Q r s') pl (by omega) (by omega) (by rw [List.size_toArray, ← hl]; exact h1) (by simpa using ew) ⟨rfl, fin⟩) hs
theorem ix_str : IxR X rIxS := by
  intro value slice pins s σ H x y v u Q I rx ry h hs
  obtain ⟨z, i, c, rfl, rfl, hz, he, q⟩ := h
  obtain ⟨t, rfl⟩ := rx
  obtain ⟨t', rfl⟩ := ry
  obtain ⟨j, h1, h2, h3, h4, h5⟩ := atI_get he
  have hl : z.cps.toList.length = z.length := by simp [Str.length]
  rw [hl] at h1 h4 h5
  have hn := line63
  exact tail_any (typeIs_str s z t) slot_str_getitem.lookup (getItem_str (c := c) (by
    have e1 : decide (i < -(2 ^ 63 : Int)) = false := decide_eq_false (by omega)
    have e2 : decide (i ≥ 2 ^ 63) = false := decide_eq_false (by omega)
    rw [e1, e2, Bool.or_false]) (by rw [h1]; simpa using h2) ⟨.str ⟨#[c]⟩, H, I.tok _, ⟨_, rfl⟩, q⟩) hs
theorem Inv.lst {pins : List (Addr × Obj)} {σ : St} {H : Hp} {s : Shared} {p : Addr} {xs : List V} (I : Inv X pins σ H s) (h : H p = some (.lst xs)) :
    ∃ (its : List Value) (n : Nat), Vals xs its ∧ s.heap.get? p = some { cls := .type "list", data := .seq its.toArray n } ∧ xs.length ≤ sizeLine := by
  obtain ⟨z, its, n, r, e⟩ := I.hok p _ h
  exact ⟨its, n, r, e, z⟩
theorem call_len_seq : CallR X (.builtin "len") (fun xs H Q => ∃ p ys, xs = [.ref p] ∧ (SqL X.K H p ys ∨ SqT X.K H p ys) ∧ Q (.int ys.length) H) := by
  intro pins s σ H xs us Q I r h
  obtain ⟨p, ys, rfl, hq, q⟩ := h
  obtain ⟨u, rfl, rx⟩ := vals1 r
  cases rx
  have hn := line63
  rcases hq with hq | hq
  · obtain ⟨its, r', pl, hz⟩ := I.list hq
    have hlen := r'.length
    exact Calls.call_len_list pl.isList (by simp only [List.size_toArray] <;> omega) ⟨.int ys.length, H, I.tok _, ⟨s.toks + 1, by rw [List.size_toArray, hlen]⟩, q⟩
  · obtain ⟨its, r', pl, hz⟩ := I.tuple hq
    have hlen := r'.length
    exact len_tuple pl (by simp only [List.size_toArray] <;> omega) ⟨.int ys.length, H, I.tok _, ⟨s.toks + 1, by rw [List.size_toArray, hlen]⟩, q⟩
theorem call_len_str : CallR X (.builtin "len") (fun xs H Q => ∃ z, xs = [.str z] ∧ z.length ≤ sizeLine ∧ Q (.int z.length) H) := by
  intro pins s σ H xs us Q I r h
  obtain ⟨z, rfl, hz, q⟩ := h
  obtain ⟨u, rfl, t, rfl⟩ := vals1 r
  have hn := line63
  exact len_str (by omega) ⟨.int z.length, H, I.tok _, ⟨_, rfl⟩, q⟩
theorem CallR.or {f : Value} {r r' : List V → Hp → VK → Prop} (h : CallR X f r) (h' : CallR X f r') : CallR X f (fun xs H Q => r xs H Q ∨ r' xs H Q) := by
  intro pins s σ H xs us Q I rs q
  rcases q with q | q
  · exact h pins s σ H xs us Q I rs q
  · exact h' pins s σ H xs us Q I rs q
def tyV (K : PySem.W.Frag) (T : String) (x : V) (H : Hp) : Prop := match x with
  | .str _ => T = "str"
  | .int _ => T = "int"
  | .ref p => (T = "list" ∧ ∃ xs, SqL K H p xs) ∨ (T = "tuple" ∧ ∃ o, K.lookup p = some o ∧ o.cls = .type "tuple" ∧ o.dict = none) ∨
      (T = "dict" ∧ ((∃ kvs, H p = some (.dK kvs)) ∨ ∃ kvs, H p = some (.dT kvs))) ∨ (T = "set" ∧ ∃ S n, H p = some (.set S n))
  | _ => False
theorem tyV_is {pins : List (Addr × Obj)} {σ : St} {H : Hp} {s : Shared} {T : String} {x : V} {v : Value} (I : Inv X pins σ H s) (r : RelV x v) (ty : tyV X.K T x H) :
    s.TypeIs v T ∧ ∀ a, v = .ref a → ∃ ob, s.heap.get? a = some ob ∧ ob.dict = none := by
  cases x with
  | str z =>
    obtain ⟨t, rfl⟩ := r
    cases (show T = "str" from ty)
    exact ⟨typeIs_str s z t, fun _ e => nomatch e⟩
  | int i =>
    obtain ⟨t, rfl⟩ := r
    cases (show T = "int" from ty)
    exact ⟨typeIs_int s i t, fun _ e => nomatch e⟩
  | ref p =>
    cases r
    rcases ty with ⟨rfl, xs, hq⟩ | ⟨rfl, o, hk, hc, hd⟩ | ⟨rfl, hk⟩ | ⟨rfl, S, n, hk⟩
    · obtain ⟨its, _, pl, _⟩ := I.list hq
      refine ⟨pl.isList.typeIs, fun a e => ?_⟩
      cases e
      obtain ⟨o, n, e, c, hd, _⟩ := pl
      exact ⟨o, e, hd⟩
    · refine ⟨⟨o, I.kIn p o hk, hc⟩, fun a e => ?_⟩
      cases e
      exact ⟨o, I.kIn _ o hk, hd⟩
    · have z : ∃ o, s.heap.get? p = some o ∧ o.ExactDict := by
        rcases hk with ⟨kvs, hk⟩ | ⟨kvs, hk⟩
        · obtain ⟨_, _, _, _, o, _, _, e, ex, _⟩ := I.hok p _ hk
          exact ⟨o, e, ex⟩
        · obtain ⟨_, _, _, _, o, _, _, e, ex, _⟩ := I.hok p _ hk
          exact ⟨o, e, ex⟩
      obtain ⟨o, e, ex⟩ := z
      refine ⟨⟨o, e, ex.1⟩, fun a e2 => ?_⟩
      cases e2
      exact ⟨o, e, ex.2.1⟩
    · obtain ⟨o, _, _, _, e, ex, _⟩ := I.hok p _ hk
      refine ⟨⟨o, e, ex.1⟩, fun a e2 => ?_⟩
      cases e2
      exact ⟨o, e, ex.2.1⟩
  | _ => exact False.elim ty
def tBM (K : PySem.W.Frag) (T : String) (r : V → List V → Hp → VK → Prop) (to : TE) (t : TA) : TE := fun σ H Q => to σ H fun x H1 => tyV K T x H1 ∧ t σ H1 fun xs H2 => r x xs H2 Q
variable {o e : Expr} {es : List Expr} {to : TE} {t : TA} {name : Str} {apos cpos : Pos} {T id : String} {r : V → List V → Hp → VK → Prop}
theorem pe_bm (pa : PlainAttrs T) (slot : Slot T name id) (hty : typeOf (.builtin id) = pure (.type "method_descriptor")) (hm : MtR X id r) (ho : PE X o to) (ha : PA X (e :: es) t)
    (hbase : attributeBase o name X.env (eval o X.env) = eval o X.env := by rfl)
    (hfew : ((backTo cpos (starEach (e :: es) X.env)).all (fun x => !x.1) && (backToKw cpos (keywordEach [] X.env)).all (fun x => x.1.isSome)
      && decide ((e :: es).length + ([] : List Keyword).length + (if ([] : List Keyword).isEmpty then 0 else 1) < 30)) = true := by rfl)
    (hline : (apos.endLine == cpos.line) = true := by rfl) (hs : starEach (e :: es) X.env = (false, eval e X.env) :: starEach es X.env := by rfl) (hplain : (backTo cpos (starEach es X.env)).any (·.1) = false := by rfl) :
    PE X (.Call (.Attribute o name apos) (e :: es) [] cpos) (tBM X.K T r to t) := by
  intro pins s σ H Q I h
  refine wpAny_Call_method_late hbase hfew hline rfl (thn (ho pins s σ H _ I h) fun v s1 ⟨x, H1, I1, r1, ty, q1⟩ => ?_)
  obtain ⟨h1, h2⟩ := tyV_is I1 r1 ty
  refine ⟨T, id, pa, slot, hty, h1, h2, ?_⟩
  have hA := ha cpos pins s1 σ H1 _ I1 q1
  rw [hs] at hA ⊢
  refine Calls.callWith_builtin (by show (false || (backTo cpos (starEach es X.env)).any (·.1)) = false; rw [hplain] <;> rfl) (Calls.evalArgs_plain ?_)
  exact thn hA fun us s2 ⟨vs, H2, I2, r2, q2⟩ => hm pins s2 σ H2 x vs v us Q I2 r1 r2 q2
end
end L2
namespace L2
open PySem PySem.Spec PyProof.Rows
def MtM (X : Cx) (id : String) (r : V → List V → Hp → VK → Prop) : Prop :=
  ∀ (pins : List (Addr × Obj)) (s : Shared) (σ : St) (H : Hp) (x : V) (xs : List V) (v : Value) (us : List Value) (Q : VK), Inv X pins σ H s → RelV x v → Vals xs us → r x xs H Q →
    wpAny (model X.prog X.w) X.A (call (.builtin id) (v :: us)) (EP X pins σ Q) X.xe s
theorem Vals.one : ∀ {x : V} {us : List Value}, Vals [x] us → ∃ u, us = [u] ∧ RelV x u
  | _, _, .cons r .nil => ⟨_, rfl, r⟩
theorem Vals.two : ∀ {x y : V} {us : List Value}, Vals [x, y] us → ∃ u v, us = [u, v] ∧ RelV x u ∧ RelV y v
  | _, _, _, .cons r (.cons q .nil) => ⟨_, _, rfl, r, q⟩
theorem Vals.zero : ∀ {us : List Value}, Vals [] us → us = []
  | _, .nil => rfl
theorem Vals.reverse {xs : List V} {us : List Value} (h : Vals xs us) : Vals xs.reverse us.reverse := by
  induction h with
  | nil => exact .nil
  | cons r t ih => rw [List.reverse_cons, List.reverse_cons]; exact Vals.append ih (.cons r .nil)
theorem Vals.rep {xs : List V} {us : List Value} (h : Vals xs us) : ∀ k : Nat, Vals (List.replicate k xs).flatten (List.replicate k us).flatten
  | 0 => .nil
  | k + 1 => by
    rw [List.replicate_succ, List.replicate_succ, List.flatten_cons, List.flatten_cons]
    exact Vals.append h (Vals.rep h k)
section
variable {X : Cx} {pins : List (Addr × Obj)} {σ : St} {H : Hp} {s : Shared} {l b : Addr} {xs ys zs : List V}
theorem Inv.lset {its its' : List Value} {n : Nat} {f : Array Value → Array Value} {t' : Nat} (I : Inv X pins σ H s) (hH : H l = some (.lst xs))
    (e : s.heap.get? l = some { cls := .type "list", data := .seq its.toArray n }) (hf : f its.toArray = its'.toArray) (hv : Vals ys its') (hz : ys.length ≤ sizeLine) :
    Inv X pins σ (upd H l (.lst ys)) { s with heap := s.heap.update l (Obj.mapSeq f), toks := t' } := by
  have q := PySem.IsL.update e f
  rw [hf] at q
  refine I.write (x := l) (e := l) (by rw [hH]; exact trivial) (.inl rfl) (fun b' u hb hu => (Heap.get?_update_other s.heap (Obj.mapSeq f) (Ne.symm hb)).trans hu) ⟨_, q⟩ ?_
  exact ⟨hz, its', _, hv, q⟩
theorem Inv.fresh (I : Inv X pins σ H s) : H s.heap.objs.size = none := I.hok.fresh (Nat.le_refl _)
theorem Inv.lstM (I : Inv X pins σ H s) (hH : H l = some (.lst xs)) : xs.length ≤ sizeLine ∧ ∃ (its : List Value) (n : Nat), Vals xs its ∧ xs.length = its.length ∧ s.heap.get? l = some { cls := .type "list", data := .seq its.toArray n } := by
  obtain ⟨z, its, n, r, e⟩ := I.hok l _ hH
  exact ⟨z, its, n, r, r.length, e⟩
end
section
variable {X : Cx}
def rAppend : V → List V → Hp → VK → Prop := fun x vs H Q => ∃ l xs y, x = .ref l ∧ vs = [y] ∧ H l = some (.lst xs) ∧ xs.length < sizeLine ∧ Q .non (upd H l (.lst (xs ++ [y])))
theorem mt_append : MtM X "list.append" rAppend := by
  intro pins s σ H x vs v us Q I rx rv h
  obtain ⟨l, xs, y, rfl, rfl, hH, hz, q⟩ := h
  cases rx
  obtain ⟨u, rfl, ru⟩ := rv.one
  obtain ⟨z, its, n, r, hl, e⟩ := I.lstM hH
  refine call_meets F.slot_list_append ⟨_, e, rfl⟩ F.entry_list_append (F.args_list_append_2 _ _) (PySem.list_append l its.toArray n u (by rw [List.size_toArray]; omega)) ⟨e, ?_⟩
  refine ⟨.non, _, I.lset (its' := its ++ [u]) hH e (by simp) (r.append (.cons ru .nil)) ?_, rfl, q⟩
  rw [List.length_append, List.length_singleton]
  omega
end
section
variable {prog : Program} {w : World} {A : Around} {E : Value → Shared → Prop} {s : Shared}
end
section
variable {X : Cx}
end
end L2
namespace Att
open PySem PySem.W PySem.Calls PyProof.Rows
theorem ints_of_wellAll {P : Params} {h : Heap} : ∀ (ns : List Int) (vs : List Value), WellAll P h vs (ns.map WData.int) → IntsAre vs ns := by
  intro ns
  induction ns with
  | nil =>
    intro vs w
    rw [List.map_nil] at w
    cases w
    exact .nil
  | cons n ns ih =>
    intro vs w
    rw [List.map_cons] at w
    cases w with
    | cons a b =>
      cases a
      exact .cons _ _ (ih _ b)
theorem script_of {l : OpenLaw} {n : Nat} (hn : l.most = some n) {P : Params} {h : Heap} {args : List WData} {vals : List Value}
    (hpre : l.row.toRowW.claim.pre args = true) (hwl : WellAll P h vals args) :
    ∃ a vs ns, vals = [Value.ref a] ∧ args = [WData.list (ns.map WData.int)] ∧ h.get? a = some { cls := .type "list", data := .seq vs.toArray } ∧ IntsAre vs ns ∧ ns.length ≤ n := by
  have hsh : WShape.hasAll [] args [.list .int] = true := (pre_splitW hpre).1
  have hc : l.pre.holds [] { args := args } = true := (pre_splitW hpre).2
  obtain ⟨d, r, rfl, h1, h2⟩ := hasAllW_cons hsh
  obtain rfl := hasAllW_nil h2
  obtain ⟨xs, rfl, h3⟩ := hasW_list h1
  obtain ⟨ns, rfl⟩ := items_int h3
  have hlen : ns.length ≤ n := by
    unfold OpenLaw.pre at hc
    have h4 : (WTm.not (.lt (.lit (.int (n : Int))) (.len (.arg 0)))).holds [] { args := [.list (ns.map .int)] } = true := by
      have h4 := (holds_andW hc).1
      rw [hn] at h4
      exact h4
    have h5 := condW_of h4 (w_not (w_lt w_lit (w_len_list (w_arg rfl))))
    rw [List.length_map] at h5
    refine Nat.le_of_not_lt fun q => ?_
    have q' : (n : Int) < ((ns.length : Nat) : Int) := by omega
    first
      | (rw [decide_eq_true q'] at h5; exact absurd h5 (by decide))
      | (simp at h5; omega)
  cases hwl with
  | cons w1 w2 =>
    cases w2
    cases w1 with
    | list ho hall => exact ⟨_, _, ns, rfl, rfl, ho, ints_of_wellAll ns _ hall, hlen⟩
theorem post_true (l : OpenLaw) (args : List WData) : l.row.toRowW.claim.post args (.bool true) args = true :=
  postW_of (r := l.row.toRowW) (X := (true == true))
    (show WShape.has [] (.bool true) .bool = true by first | rfl | decide | simp [WShape.has, WShape.arms, WShape.armsAll])
    (show (WTm.eq .res (.lit (.bool true))).value [] { args := args, res := some (.bool true), after := args } = some (.bool (true == true)) from w_eq_bool (w_res rfl) w_lit) rfl
theorem attach_call {l : OpenLaw} {n : Nat} {q : Program} {loose : List Str} {XP : (Str → Option Value) → Heap → Prop} {YP : World → Heap → Prop} {d : DefRec}
    (hn : l.most = some n) (hdf : d.params.defaults = [])
    (call : ∀ (w : World) (s₀ s₁ : Shared) (mg mb : Str → Option Value) (fa : Addr) (o : Obj) (pm cd doc : Value) (a : Addr) (vs : List Value) (ns : List Int),
      Ground q loose [] XP w s₀ mg mb s₁.heap → YP w s₁.heap →
      s₁.heap.get? fa = some o → o.data = .func (docDef d.name d.params d.body d.scope pm cd doc) → s₁.heap.CodeRec cd d.name → mg d.name = some (.ref fa) →
      s₁.heap.get? a = some { cls := .type "list", data := .seq vs.toArray } → IntsAre vs ns → ns.length ≤ n → s₁.gens = #[] →
      codeAny (model l.prog w) callerA (.call (.ref fa) ⟨[.ref a], []⟩) (fun r s' => r = .ok (.ret (.bool true)) ∧ OldK s₁.heap s'.heap ∧ s'.os = s₁.os ∧ AllBare s'.gens) s₁) :
    WalkO q loose XP YP l.row.toRowW d [] (fun f vs => PySem.call f vs) := by
  intro w s₀ s₁ mg mb G Y fa o pm cd doc dV kV ho hd hcd hD hmg hg args vals as hpre hlay hrd hwl hlo
  obtain rfl : dV = .none := Dflts.none hD hdf
  obtain rfl : kV = .none := Dflts.noKw hD
  obtain ⟨a, vs, ns, rfl, rfl, hobj, hints, hlen⟩ := script_of hn hpre hwl
  refine enter_call (codeAny_mono (call w s₀ s₁ mg mb fa o pm cd doc a vs ns G Y ho (fd_plain hd) hcd hmg hobj hints hlen hg) fun r s' hq => ?_)
  obtain ⟨rfl, h2, h3, h4⟩ := hq
  exact ⟨.inl ⟨.bool true, .bool true, [], rfl, fun _ => rfl, .bool true, post_true l _, fun _ => ⟨List.Pairwise.nil, fun _ hm => (nomatch hm)⟩⟩, h2, h3, h4⟩
section
variable {prog : Program} {w : World} {A : Around} {E : Value → Shared → Prop} {s : Shared} {K : Frag}
end
end Att
namespace L2
open PySem PySem.Spec PyProof.Rows
theorem vals_ints : ∀ {vs : List Value} {ns : List Int}, IntsAre vs ns → Vals (ns.map V.int) vs
  | _, _, .nil => .nil
  | _, _, .cons n t h => .cons ⟨t, rfl⟩ (vals_ints h)
def Only (H : Hp) : Prop := ∀ b, H b = none ∨ ∃ o xs, H b = some (.frz o (.lst xs))
theorem law_call {P : Program} {w : World} {K : PySem.W.Frag} {mg mb : Str → Option Value} {CX : CXT} {k : Nat} {fa a : Addr} {fd : FuncData} {x : Str} {sp : Sp} {s₁ : Shared} {vs : List Value} {ns : List Int}
    (KX : K.In s₁.heap) (hns : s₁.heap.Ns mainGlobals mg) (hb : s₁.heap.Ns builtinsNs mb) (hbb : ∀ x : Str, x ≠ "__name__" → mb x = bootBuiltins x) (hlim : s₁.heap.NoLimit) (hg : s₁.gens = #[])
    (ha : s₁.heap.get? a = some { cls := .type "list", data := .seq vs.toArray }) (hi : IntsAre vs ns) (hl : ns.length ≤ sizeLine) (hr : Room k callerA)
    (F : ∀ base : Heap, K.In base → base.Ns mainGlobals mg → FnOk P w K mg base CX k fa fd [x] sp) (hbind : ∀ (s : Shared) (u : Value), BindsTo s fd ⟨[u], []⟩ [(x, u)])
    (hsp : ∀ H : Hp, Only H → SqL K H a (ns.map V.int) → sp [.ref a] H (fun v _ => v = .bl true) fun _ _ _ => False)
    (hCX : ∀ H e s', CX [] H s₁ (fun _ _ _ => False) e s' → False) :
    codeAny (model P w) callerA (.call (.ref fa) ⟨[.ref a], []⟩) (fun r s' => r = .ok (.ret (.bool true)) ∧ OldK s₁.heap s'.heap ∧ s'.os = s₁.os ∧ AllBare s'.gens) s₁ := by
  have rv := vals_ints hi
  have lenV := hi.length
  have core : ∀ H : Hp, Only H → SqL K H a (ns.map V.int) → HOk P w H s₁.heap → (∀ b, H b ≠ none → b = a) → (H a ≠ none → K.lookup a = none) →
      codeAny (model P w) callerA (.call (.ref fa) ⟨[.ref a], []⟩) (fun r s' => r = .ok (.ret (.bool true)) ∧ OldK s₁.heap s'.heap ∧ s'.os = s₁.os ∧ AllBare s'.gens) s₁ := by
    intro H hO hS hok hA hK
    have base_of : ∀ {b : Addr} {o : Obj}, s₁.heap.get? b = some o → H b = none → (hidT s₁.heap H).get? b = some o := fun e n => hidT_get e n
    have noA : ∀ {b : Addr} {o : Obj} {es : Array DictEntry} {ep : Nat}, s₁.heap.get? b = some o → o.data = .dict es ep → H b = none := fun {b o es ep} e d => by
      cases q : H b with
      | none => rfl
      | some u =>
        have e' : b = a := hA b (by rw [q]; simp)
        subst e'
        rw [ha] at e; cases e
        have d' : Data.seq vs.toArray _ = Data.dict es ep := d
        cases d'
    have nsK : ∀ {b : Addr} {m : Str → Option Value}, s₁.heap.Ns b m → (hidT s₁.heap H).Ns b m := fun {b m} ⟨o, es, ep, e, d, r⟩ => ⟨o, es, ep, base_of e (noA e d), d, r⟩
    have hKb : K.In (hidT s₁.heap H) := fun b o e => base_of (KX b o e) (by
      cases q : H b with
      | none => rfl
      | some u =>
        have e' : b = a := hA b (by rw [q]; simp)
        subst e'
        rw [hK (by rw [q]; simp)] at e; cases e)
    have hM : Mod K mg (hidT s₁.heap H) := ⟨hKb, nsK hns, ⟨mb, nsK hb, hbb⟩, let ⟨mc, h1, h2⟩ := hlim; ⟨mc, nsK h1, h2⟩⟩
    have e0 : Env0 P w K mg (hidT s₁.heap H) callerA [] s₁ H := ⟨rfl, hM, fun b o e => of_hidT e, Nat.le_of_eq (hidT_size _ _), trivial, fun b hb => absurd (show b ∈ ([] : List Addr) from hb) (by simp), hok, .of_eq hg⟩
    refine codeAny_mono ((F _ hKb (nsK hns)).run callerA [] s₁ H ⟨[.ref a], []⟩ [.ref a] [.ref a] _ _ hr e0 (hbind s₁ (.ref a)) (.cons rfl .nil) (hsp H hO hS)) fun r s' h => ?_
    cases r with
    | error e => exact (hCX H e s' h).elim
    | ok fl =>
      cases fl with
      | next => exact False.elim h
      | brk => exact False.elim h
      | cont => exact False.elim h
      | ret u =>
        obtain ⟨v, H', os, bare, un, hok', r', q⟩ := h
        have q' : v = .bl true := q
        subst q'
        obtain rfl : u = Value.bool true := r'
        refine ⟨rfl, OldK.of_keep fun b o e => ?_, os, bare⟩
        cases q : H b with
        | none => exact un.keep b o e q (by intro z; exact absurd (show b ∈ ([] : List Addr) from z) (by simp)) (by simp)
        | some u =>
          rcases hO b with z | ⟨ob, xs, z⟩
          · rw [q] at z; cases z
          · have z2 := un.frzs b ob _ z
            obtain ⟨e1, _⟩ := hok b _ z
            obtain ⟨e2, _⟩ := hok' b _ z2
            rw [e] at e1; cases e1
            exact e2
  cases hk : K.lookup a with
  | some o =>
    have e := KX a o hk
    rw [ha] at e
    cases e
    refine core (fun _ => none) (fun _ => .inl rfl) (.inr ⟨_, vs.toArray, _, hk, rfl, rfl, rfl, by rw [List.size_toArray, lenV]; exact hl, by simpa using rv⟩) (fun b u z => by have z' : (none : Option HO) = some u := z; cases z') (fun b z => absurd rfl z) fun z => absurd rfl z
  | none =>
    refine core (fun b => if b = a then some (.frz { cls := .type "list", data := .seq vs.toArray } (.lst (ns.map V.int))) else none) (fun b => ?_) (.inl (.inr ⟨{ cls := .type "list", data := .seq vs.toArray }, if_pos rfl⟩)) (fun b u z => ?_) (fun b z => ?_) fun _ => hk
    · by_cases hb : b = a
      · exact .inr ⟨_, _, if_pos hb⟩
      · exact .inl (if_neg hb)
    · by_cases hb : b = a
      · have z' := (if_pos hb).symm.trans z
        cases z'
        subst hb
        exact ⟨ha, by rw [List.length_map]; exact hl, vs, _, rv, ha⟩
      · have z' := (if_neg hb).symm.trans z
        cases z'
    · by_cases hb : b = a
      · exact hb
      · exact absurd (if_neg hb) z
end L2
namespace L2
open PySem PySem.Spec PyProof.Rows
theorem walk_of {l : PySem.W.OpenLaw} {n k : Nat} {q : Program} {loose : List Str} {XP : (Str → Option Value) → Heap → Prop} {YP : World → Heap → Prop} {d : DefRec} {K : Params → PySem.W.Frag} {CX : World → CXT} {sp : World → Sp} {x : Str}
    (hn : l.most = some n) (hn2 : n ≤ sizeLine) (hdf : d.params.defaults = []) (hr : Room k callerA)
    (hY : ∀ (w : World) (h : Heap), YP w h → (K w.params).In h)
    (F : ∀ (w : World) (mg : Str → Option Value) (fa : Addr) (h : Heap), (K w.params).In h → h.Ns mainGlobals mg → mg d.name = some (.ref fa) →
      ∃ fd : FuncData, (∀ (s : Shared) (u : Value), BindsTo s fd ⟨[u], []⟩ [(x, u)]) ∧
        ∀ base : Heap, (K w.params).In base → base.Ns mainGlobals mg → FnOk l.prog w (K w.params) mg base (CX w) k fa fd [x] (sp w))
    (hsp : ∀ (w : World) (H : Hp) (a : Addr) (ns : List Int), ns.length ≤ n → Only H → SqL (K w.params) H a (ns.map V.int) → sp w [.ref a] H (fun v _ => v = .bl true) fun _ _ _ => False)
    (hCX : ∀ (w : World) (H : Hp) (s : Shared) (e : Value) (s' : Shared), CX w [] H s (fun _ _ _ => False) e s' → False) :
    PySem.W.WalkO q loose XP YP l.row.toRowW d [] (fun f vs => PySem.call f vs) := by
  refine Att.attach_call hn hdf fun w s₀ s₁ mg mb fa o pm cd doc a vs ns G Y ho hd hcd hmg hobj hints hlen hg => ?_
  have KX := hY w _ Y
  obtain ⟨fd, hb, hF⟩ := F w mg fa _ KX G.T.g hmg
  exact law_call KX G.T.g G.T.b G.T.builtins G.T.nolimit hg hobj hints (Nat.le_trans hlen hn2) hr hF hb (fun H hO hS => hsp w H a ns hlen hO hS) fun H e s' => hCX w H s₁ e s'
theorem walk_ofK {l : PySem.W.OpenLaw} {n k : Nat} {q : Program} {loose : List Str} {XP : (Str → Option Value) → Heap → Prop} {YP : World → Heap → Prop} {d : DefRec} {K : Params → PySem.W.Frag} {CX : CXT} {sp : PySem.W.Frag → Sp} {x : Str}
    (hn : l.most = some n) (hn2 : n ≤ sizeLine) (hdf : d.params.defaults = []) (hr : Room k callerA)
    (hY : ∀ (w : World) (h : Heap), YP w h → (K w.params).In h)
    (F : ∀ (w : World) (mg : Str → Option Value) (fa : Addr) (h : Heap), (K w.params).In h → h.Ns mainGlobals mg → mg d.name = some (.ref fa) →
      ∃ fd : FuncData, (∀ (s : Shared) (u : Value), BindsTo s fd ⟨[u], []⟩ [(x, u)]) ∧
        ∀ base : Heap, (K w.params).In base → base.Ns mainGlobals mg → FnOk l.prog w (K w.params) mg base CX k fa fd [x] (sp (K w.params)))
    (hsp : ∀ (K : PySem.W.Frag) (H : Hp) (a : Addr) (ns : List Int), ns.length ≤ n → Only H → SqL K H a (ns.map V.int) → sp K [.ref a] H (fun v _ => v = .bl true) fun _ _ _ => False)
    (hCX : ∀ (H : Hp) (s : Shared) (e : Value) (s' : Shared), CX [] H s (fun _ _ _ => False) e s' → False) :
    PySem.W.WalkO q loose XP YP l.row.toRowW d [] (fun f vs => PySem.call f vs) :=
  walk_of (K := K) (CX := fun _ => CX) (sp := fun w => sp (K w.params)) hn hn2 hdf hr hY F (fun w H a ns h1 h2 h3 => hsp (K w.params) H a ns h1 h2 h3) fun _ H s e s' => hCX H s e s'
end L2
namespace L2
open PySem PySem.Spec PyProof.Rows
def defArgs (s : Stmt) : Arguments := match s with
  | .FunctionDef _ a _ _ _ _ _ _ _ _ => a
  | _ => { posonlyargs := [], args := [], vararg := none, kwonlyargs := [], kw_defaults := [], kwarg := none, defaults := [] }
def defBody (s : Stmt) : List Stmt := match s with
  | .FunctionDef _ _ b _ _ _ _ _ _ _ => b
  | _ => []
def defScope (s : Stmt) : Scope := match s with
  | .FunctionDef _ _ _ _ _ _ sc _ _ _ => sc
  | _ => { kind := .function, names := [], isGenerator := false, isCoroutine := false }
abbrev CX0 : CXT := fun _ _ _ _ _ _ => False
abbrev E0 : XK := fun _ _ _ => False
theorem pass0 {X : Cx} : Passes CX0 X E0 := fun _ _ _ _ _ _ _ h => h.elim
structure Fun (K : PySem.W.Frag) (x qual : Str) (st : Stmt) (f : Addr) (fd : FuncData) : Prop where
  ex : ∃ (oc : Value) (od : Option Addr) (kV doc pm : Value) (an : Option Addr) (cdv ct : Value) (osl : Array (Option Value)),
    fd = PySem.W.fnOf x qual (defArgs st) (defBody st) (defScope st) .none kV doc pm an cdv ct ∧ K.lookup f = some ⟨oc, od, .func fd, osl⟩ ∧ PySem.W.codeIn K cdv qual = true
  kp : PySem.W.keepIn K (.ref f) = true
section
variable {P : Program} {w : World} {K : PySem.W.Frag} {mg : Str → Option Value} {base : Heap}
theorem Fun.ok {x qual : Str} {st : Stmt} {f : Addr} {fd : FuncData} {N ps : List Str} {k : Nat} {sp : Sp} (F : Fun K x qual st f fd) (S : FnScope N ps (defScope st)) (len : ∀ vs H Q E, sp vs H Q E → vs.length = ps.length)
    (hbody : ∀ (cdv : Value) (A : Around) (outer : List Env) (s : Shared) (H : Hp) (vs : List V) (Q : VK) (E : XK), Room k (A.deeper (envOfC qual (defScope st) s.heap.objs.size f cdv)) → sp vs H Q E →
      ∃ t, PSs (cxOf CX0 P w K mg base N qual (defScope st) f cdv A outer s H E).nox (defBody st) t ∧ t { nx := fun _ H' => Q .non H', rt := Q } (start N vs) H) : FnOk P w K mg base CX0 (k + 1) f fd ps sp := by
  obtain ⟨oc, od, kV, doc, pm, an, cdv, ct, osl, rfl, lk, hcd⟩ := F.ex
  refine fn_of lk hcd S len fun A outer s H vs Q E hr hsp => ?_
  obtain ⟨t, h, q⟩ := hbody cdv A outer s H vs Q E hr hsp
  exact ⟨t, h.nox, q⟩
theorem Fun.binds {x qual : Str} {st : Stmt} {f : Addr} {fd : FuncData} {ps : List Str} (F : Fun K x qual st f fd)
    (h : ∀ (kV doc pm : Value) (an : Option Addr) (cdv ct : Value) (us : List Value), us.length = ps.length → bindArgs (PySem.W.fnOf x qual (defArgs st) (defBody st) (defScope st) .none kV doc pm an cdv ct) ⟨us, []⟩ = pure (ps.zip us)) : Binds K fd ps [] := by
  obtain ⟨oc, od, kV, doc, pm, an, cdv, ct, osl, rfl, lk, hcd⟩ := F.ex
  exact .all (h kV doc pm an cdv ct)
theorem fun_mk {x qual : Str} {st : Stmt} {f : Addr} {oc : Value} {od an : Option Addr} {osl : Array (Option Value)} {kV doc pm cdv ct : Value} (l : K.lookup f = some ⟨oc, od, .func (PySem.W.fnOf x qual (defArgs st) (defBody st) (defScope st) .none kV doc pm an cdv ct), osl⟩)
    (c : PySem.W.codeIn K cdv qual = true) (k : PySem.W.keepIn K (.ref f) = true) : Fun K x qual st f (PySem.W.fnOf x qual (defArgs st) (defBody st) (defScope st) .none kV doc pm an cdv ct) := ⟨⟨oc, od, kV, doc, pm, an, cdv, ct, osl, rfl, l, c⟩, k⟩
end
theorem small1000 {n : Nat} (h : n ≤ 1000) : n < sizeLine := Nat.lt_of_le_of_lt h (by decide)
section
variable {X : Cx}
end
theorem iteF {A B : Prop} (h : B) : if false = true then A else B := by
  rw [if_neg Bool.false_ne_true]
  exact h
theorem iteT {A B : Prop} (h : A) : if true = true then A else B := by
  rw [if_pos rfl]
  exact h
theorem ite2 {c A B : Prop} [Decidable c] (h1 : c → A) (h2 : ¬ c → B) : if c then A else B := by
  by_cases h : c
  · rw [if_pos h]
    exact h1 h
  · rw [if_neg h]
    exact h2 h
def Same (H H' : Hp) : Prop := ∀ b o, H b = some o → H' b = some o
theorem Same.refl (H : Hp) : Same H H := fun _ _ h => h
theorem Same.trans {H H1 H2 : Hp} (a : Same H H1) (b : Same H1 H2) : Same H H2 := fun c o h => b c o (a c o h)
theorem Same.free {H H' : Hp} (e : Same H H') {l : Addr} (h : H' l = Option.none) : H l = Option.none := by
  cases q : H l with
  | none => rfl
  | some o =>
    rw [e l o q] at h
    cases h
theorem Same.seq {K : PySem.W.Frag} {H H' : Hp} {a : Addr} {xs : List V} (e : Same H H') (h : SqL K H a xs) : SqL K H' a xs := by
  rcases h with (h | ⟨o, h⟩) | h
  · exact .inl (.inl (e _ _ h))
  · exact .inl (.inr ⟨o, e _ _ h⟩)
  · exact .inr h
end L2
set_option maxHeartbeats 4000000
namespace L3
open PySem PySem.Spec PyProof.Rows L2
abbrev St := L2.St
inductive D where
  | non | bl (b : Bool) | int (i : Int) | str (x : Str) | ty (n : String) | ref (a : Addr) | tup (xs : List D) | frl (xs : List D) | thg (n : String) | exc (C : Addr) (nm : Str) (xs : List D)
def Kl (K : PySem.W.Frag) (a : Addr) (xs : List V) : Prop :=
  ∃ (o : Obj) (its : Array Value) (n : Nat), K.lookup a = some o ∧ o.cls = .type "list" ∧ o.dict = none ∧ o.data = .seq its n ∧ its.size ≤ sizeLine ∧ Vals xs its.toList
def Fz (K : PySem.W.Frag) (H : Hp) (a : Addr) (xs : List V) : Prop := (∃ o, H a = some (.frz o (.lst xs))) ∨ Kl K a xs
theorem Fz.sq {K : PySem.W.Frag} {H : Hp} {a : Addr} {xs : List V} (h : Fz K H a xs) : SqL K H a xs := by
  rcases h with ⟨o, h⟩ | h
  · exact .inl (.inr ⟨o, h⟩)
  · exact .inr h
abbrev xO (C t : Addr) : Obj := { cls := .ref C, data := .fields #[.ref t, .none, .none, .none, .bool false, .none] }
abbrev yO (C t d : Addr) : Obj := { cls := .ref C, dict := some d, data := .fields #[.ref t, .none, .none, .none, .bool false, .none] }
def Xo (H : Hp) (C : Addr) (nm : Str) (o : Obj) (xs : List V) : Prop := (xs = [] ∧ ∃ t, o = xO C t) ∨ ∃ t dx od vx, xs = [vx] ∧ o = yO C t dx ∧ H dx = some (.frz od (.xd [(nm, vx)]))
mutual
def Dat (K : PySem.W.Frag) (H : Hp) : D → V → Prop
  | .non, v => v = .non
  | .bl b, v => v = .bl b
  | .int i, v => v = .int i
  | .str x, v => v = .str x
  | .ty n, v => v = .ty n
  | .ref a, v => v = .ref a
  | .tup ds, v => ∃ a xs, v = .ref a ∧ H a = some (.tup xs) ∧ Dats K H ds xs
  | .frl ds, v => ∃ a xs, v = .ref a ∧ Fz K H a xs ∧ Dats K H ds xs
  | .thg n, v => ∃ a o u, v = .ref a ∧ H a = some (.frz o u) ∧ o.cls = .type n
  | .exc C nm ds, v => ∃ a o u xs, v = .ref a ∧ H a = some (.frz o u) ∧ Xo H C nm o xs ∧ Dats K H ds xs
def Dats (K : PySem.W.Frag) (H : Hp) : List D → List V → Prop
  | [], xs => xs = []
  | d :: ds, xs => ∃ v vs, xs = v :: vs ∧ Dat K H d v ∧ Dats K H ds vs
end
structure Ext (H H' : Hp) : Prop where
  tup : ∀ b xs, H b = some (.tup xs) → H' b = some (.tup xs)
  frz : ∀ b o u, H b = some (.frz o u) → H' b = some (.frz o u)
theorem Ext.refl (H : Hp) : Ext H H := ⟨fun _ _ h => h, fun _ _ _ h => h⟩
theorem Ext.trans {H H1 H2 : Hp} (a : Ext H H1) (b : Ext H1 H2) : Ext H H2 := ⟨fun c xs h => b.tup c xs (a.tup c xs h), fun c o u h => b.frz c o u (a.frz c o u h)⟩
theorem Fz.mono {K : PySem.W.Frag} {H H' : Hp} {a : Addr} {xs : List V} (e : Ext H H') (h : Fz K H a xs) : Fz K H' a xs := by
  rcases h with ⟨o, h⟩ | h
  · exact .inl ⟨o, e.frz _ _ _ h⟩
  · exact .inr h
theorem Xo.mono {H H' : Hp} {C : Addr} {nm : Str} {o : Obj} {xs : List V} (e : Ext H H') (h : Xo H C nm o xs) : Xo H' C nm o xs := by
  rcases h with h | ⟨t, dx, od, vx, e1, e2, e3⟩
  · exact .inl h
  · exact .inr ⟨t, dx, od, vx, e1, e2, e.frz _ _ _ e3⟩
mutual
theorem Dat.mono {K : PySem.W.Frag} {H H' : Hp} (e : Ext H H') : ∀ (d : D) (v : V), Dat K H d v → Dat K H' d v
  | .non, v, h => by simpa [Dat] using h
  | .bl b, v, h => by simpa [Dat] using h
  | .int i, v, h => by simpa [Dat] using h
  | .str x, v, h => by simpa [Dat] using h
  | .ty n, v, h => by simpa [Dat] using h
  | .ref a, v, h => by simpa [Dat] using h
  | .tup ds, v, h => by
    obtain ⟨a, xs, e1, e2, e3⟩ := (show ∃ a xs, v = .ref a ∧ H a = some (.tup xs) ∧ Dats K H ds xs from by simpa only [Dat] using h)
    have := Dats.mono e ds xs e3
    simp only [Dat]
    exact ⟨a, xs, e1, e.tup _ _ e2, this⟩
  | .frl ds, v, h => by
    obtain ⟨a, xs, e1, e2, e3⟩ := (show ∃ a xs, v = .ref a ∧ Fz K H a xs ∧ Dats K H ds xs from by simpa only [Dat] using h)
    have := Dats.mono e ds xs e3
    simp only [Dat]
    exact ⟨a, xs, e1, e2.mono e, this⟩
  | .thg n, v, h => by
    obtain ⟨a, o, u, e1, e2, e3⟩ := (show ∃ a o u, v = .ref a ∧ H a = some (.frz o u) ∧ o.cls = .type n from by simpa only [Dat] using h)
    simp only [Dat]
    exact ⟨a, o, u, e1, e.frz _ _ _ e2, e3⟩
  | .exc C nm ds, v, h => by
    obtain ⟨a, o, u, xs, e1, e2, e3, e4⟩ := (show ∃ a o u xs, v = .ref a ∧ H a = some (.frz o u) ∧ Xo H C nm o xs ∧ Dats K H ds xs from by simpa only [Dat] using h)
    have := Dats.mono e ds xs e4
    simp only [Dat]
    exact ⟨a, o, u, xs, e1, e.frz _ _ _ e2, e3.mono e, this⟩
theorem Dats.mono {K : PySem.W.Frag} {H H' : Hp} (e : Ext H H') : ∀ (ds : List D) (xs : List V), Dats K H ds xs → Dats K H' ds xs
  | [], xs, h => by simpa [Dats] using h
  | d :: ds, xs, h => by
    obtain ⟨v, vs, e1, e2, e3⟩ := (show ∃ v vs, xs = v :: vs ∧ Dat K H d v ∧ Dats K H ds vs from by simpa only [Dats] using h)
    have h1 := Dat.mono e d v e2
    have h2 := Dats.mono e ds vs e3
    simp only [Dats]
    exact ⟨v, vs, e1, h1, h2⟩
end
section
variable {K : PySem.W.Frag} {H : Hp}
theorem dat_non {v : V} : Dat K H .non v ↔ v = .non := by simp only [Dat]
theorem dat_bl {b : Bool} {v : V} : Dat K H (.bl b) v ↔ v = .bl b := by simp only [Dat]
theorem dat_int {i : Int} {v : V} : Dat K H (.int i) v ↔ v = .int i := by simp only [Dat]
theorem dat_str {x : Str} {v : V} : Dat K H (.str x) v ↔ v = .str x := by simp only [Dat]
theorem dat_ty {n : String} {v : V} : Dat K H (.ty n) v ↔ v = .ty n := by simp only [Dat]
theorem dat_ref {a : Addr} {v : V} : Dat K H (.ref a) v ↔ v = .ref a := by simp only [Dat]
theorem dat_tup {ds : List D} {v : V} : Dat K H (.tup ds) v ↔ ∃ a xs, v = .ref a ∧ H a = some (.tup xs) ∧ Dats K H ds xs := by simp only [Dat]
theorem dat_frl {ds : List D} {v : V} : Dat K H (.frl ds) v ↔ ∃ a xs, v = .ref a ∧ Fz K H a xs ∧ Dats K H ds xs := by simp only [Dat]
theorem dat_thg {n : String} {v : V} : Dat K H (.thg n) v ↔ ∃ a o u, v = .ref a ∧ H a = some (.frz o u) ∧ o.cls = .type n := by simp only [Dat]
theorem dat_exc {C : Addr} {nm : Str} {ds : List D} {v : V} : Dat K H (.exc C nm ds) v ↔ ∃ a o u xs, v = .ref a ∧ H a = some (.frz o u) ∧ Xo H C nm o xs ∧ Dats K H ds xs := by simp only [Dat]
theorem dats_nil {xs : List V} : Dats K H [] xs ↔ xs = [] := by simp only [Dats]
theorem dats_cons {d : D} {ds : List D} {xs : List V} : Dats K H (d :: ds) xs ↔ ∃ v vs, xs = v :: vs ∧ Dat K H d v ∧ Dats K H ds vs := by simp only [Dats]
theorem Dats.length : ∀ {ds : List D} {xs : List V}, Dats K H ds xs → ds.length = xs.length
  | [], xs, h => by rw [dats_nil.mp h]; rfl
  | d :: ds, xs, h => by
    obtain ⟨v, vs, rfl, _, h⟩ := dats_cons.mp h
    simp [Dats.length h]
theorem Dats.get : ∀ {ds : List D} {xs : List V} {i : Nat} {d : D}, Dats K H ds xs → ds[i]? = some d → ∃ v, xs[i]? = some v ∧ Dat K H d v
  | [], xs, _, _, _, e => by simp at e
  | d :: ds, xs, i, d', h, e => by
    obtain ⟨v, vs, rfl, h1, h2⟩ := dats_cons.mp h
    cases i with
    | zero => simp at e; subst e; exact ⟨v, rfl, h1⟩
    | succ i => exact Dats.get (i := i) h2 (by simpa using e)
theorem Dats.back : ∀ {ds : List D} {xs : List V} {i : Nat} {v : V}, Dats K H ds xs → xs[i]? = some v → ∃ d, ds[i]? = some d ∧ Dat K H d v
  | [], xs, i, v, h, e => by rw [dats_nil.mp h] at e; simp at e
  | d :: ds, xs, i, v', h, e => by
    obtain ⟨v, vs, rfl, h1, h2⟩ := dats_cons.mp h
    cases i with
    | zero => simp at e; subst e; exact ⟨d, rfl, h1⟩
    | succ i => exact Dats.back (i := i) h2 (by simpa using e)
theorem Dats.append : ∀ {ds es : List D} {xs ys : List V}, Dats K H ds xs → Dats K H es ys → Dats K H (ds ++ es) (xs ++ ys)
  | [], es, xs, ys, h, h' => by rw [dats_nil.mp h]; exact h'
  | d :: ds, es, xs, ys, h, h' => by
    obtain ⟨v, vs, rfl, h1, h2⟩ := dats_cons.mp h
    exact dats_cons.mpr ⟨v, vs ++ ys, rfl, h1, h2.append h'⟩
theorem Dats.one {d : D} {v : V} (h : Dat K H d v) : Dats K H [d] [v] := dats_cons.mpr ⟨v, [], rfl, h, dats_nil.mpr rfl⟩
end
inductive MO where
  | lst (ds : List D)
abbrev Mp := Addr → Option MO
def updM (M : Mp) (a : Addr) (o : MO) : Mp := fun b => if b = a then some o else M b
def noM : Mp := fun _ => none
theorem updM_same {M : Mp} {a : Addr} {o : MO} : updM M a o a = some o := by unfold updM; rw [if_pos rfl]
theorem updM_ne {M : Mp} {a b : Addr} {o : MO} (h : b ≠ a) : updM M a o b = M b := by unfold updM; rw [if_neg h]
theorem updM_old {M : Mp} {a b : Addr} {o u : MO} (h : M b = some o) (n : M a = none) : updM M a u b = some o := by
  rw [updM_ne (fun e => by subst e; rw [h] at n; cases n)]; exact h
def Le (M M' : Mp) : Prop := ∀ a o, M a = some o → M' a = some o
theorem Le.refl (M : Mp) : Le M M := fun _ _ h => h
theorem Le.trans {M M1 M2 : Mp} (a : Le M M1) (b : Le M1 M2) : Le M M2 := fun c o h => b c o (a c o h)
theorem Le.no (M : Mp) : Le noM M := fun _ _ h => by cases h
theorem Le.new {M : Mp} {a : Addr} {o : MO} (n : M a = none) : Le M (updM M a o) := fun _ _ h => updM_old h n
def MOk (K : PySem.W.Frag) (H : Hp) (a : Addr) : MO → Prop
  | .lst ds => ∃ xs, H a = some (.lst xs) ∧ Dats K H ds xs
def RepM (K : PySem.W.Frag) (H : Hp) (M : Mp) : Prop := ∀ a o, M a = some o → MOk K H a o
theorem RepM.no {K : PySem.W.Frag} {H : Hp} : RepM K H noM := fun _ _ h => by cases h
theorem RepM.le {K : PySem.W.Frag} {H : Hp} {M M' : Mp} (h : RepM K H M') (l : Le M M') : RepM K H M := fun a o e => h a o (l a o e)
theorem RepM.lst {K : PySem.W.Frag} {H : Hp} {M : Mp} {a : Addr} {ds : List D} (h : RepM K H M) (e : M a = some (.lst ds)) : ∃ xs, H a = some (.lst xs) ∧ Dats K H ds xs := h a _ e
theorem RepM.free {K : PySem.W.Frag} {H : Hp} {M : Mp} {a : Addr} (h : RepM K H M) (e : H a = none) : M a = none := by
  cases q : M a with
  | none => rfl
  | some o =>
    cases o with
    | lst ds =>
      obtain ⟨xs, e', _⟩ := h.lst q
      rw [e] at e'; cases e'
theorem RepM.notLst {K : PySem.W.Frag} {H : Hp} {M : Mp} {a : Addr} {u : HO} (h : RepM K H M) (e : H a = some u) (n : ∀ xs, u ≠ .lst xs) : M a = none := by
  cases q : M a with
  | none => rfl
  | some o =>
    cases o with
    | lst ds =>
      obtain ⟨xs, e', _⟩ := h.lst q
      rw [e] at e'
      exact absurd (Option.some.inj e') (n xs)
def Fr (M : Mp) (H : Hp) (M' : Mp) (H' : Hp) : Prop := ∀ b o, M b = none → H b = some o → H' b = some o ∧ M' b = none
theorem Fr.refl (M : Mp) (H : Hp) : Fr M H M H := fun _ _ n e => ⟨e, n⟩
theorem Fr.trans {M M1 M2 : Mp} {H H1 H2 : Hp} (a : Fr M H M1 H1) (b : Fr M1 H1 M2 H2) : Fr M H M2 H2 := fun c o n e =>
  let ⟨e1, n1⟩ := a c o n e
  b c o n1 e1
theorem Fr.le {M M1 M2 : Mp} {H H1 : Hp} (a : Fr M H M1 H1) (l : Le M2 M1) : Fr M H M2 H1 := fun b o n e => by
  obtain ⟨e1, n1⟩ := a b o n e
  refine ⟨e1, ?_⟩
  cases q : M2 b with
  | none => rfl
  | some u => rw [l b u q] at n1; cases n1
theorem Fr.ext {K : PySem.W.Frag} {M M' : Mp} {H H' : Hp} (f : Fr M H M' H') (r : RepM K H M) : Ext H H' :=
  ⟨fun b xs e => (f b _ (r.notLst e (fun _ z => by cases z)) e).1, fun b o u e => (f b _ (r.notLst e (fun _ z => by cases z)) e).1⟩
theorem Ext.new {H : Hp} {p : Addr} {o : HO} (n : H p = none) : Ext H (upd H p o) :=
  ⟨fun b xs e => by rw [upd_ne (ne_of_none e n)]; exact e, fun b o' u e => by rw [upd_ne (ne_of_none e n)]; exact e⟩
theorem Fr.new {M M' : Mp} {H : Hp} {p : Addr} {o : HO} (n : H p = none) (h : ∀ b, b ≠ p → M' b = M b) : Fr M H M' (upd H p o) := fun b u m e => by
  have hb : b ≠ p := ne_of_none e n
  rw [upd_ne hb, h b hb]
  exact ⟨e, m⟩
theorem Fr.write {K : PySem.W.Frag} {M : Mp} {H : Hp} {p : Addr} {o : HO} {u : MO} {v : MO} (m : M p = some u) : Fr M H (updM M p v) (upd H p o) := fun b w n e => by
  have hb : b ≠ p := fun z => by subst z; rw [m] at n; cases n
  rw [upd_ne hb, updM_ne hb]
  exact ⟨e, n⟩
theorem RepM.new {K : PySem.W.Frag} {M : Mp} {H : Hp} {p : Addr} {o : HO} (r : RepM K H M) (n : H p = none) : RepM K (upd H p o) M := fun a u e => by
  cases u with
  | lst ds =>
    obtain ⟨xs, e1, e2⟩ := r.lst e
    exact ⟨xs, by rw [upd_ne (ne_of_none e1 n)]; exact e1, Dats.mono (Ext.new n) _ _ e2⟩
theorem Ext.writeL {H : Hp} {p : Addr} {xs ys : List V} (h : H p = some (.lst xs)) : Ext H (upd H p (.lst ys)) :=
  ⟨fun b zs e => by rw [upd_ne (ne_of e h (by intro z; cases z))]; exact e, fun b o u e => by rw [upd_ne (ne_of e h (by intro z; cases z))]; exact e⟩
theorem RepM.newL {K : PySem.W.Frag} {M : Mp} {H : Hp} {p : Addr} {xs : List V} {ds : List D} (r : RepM K H M) (n : H p = none) (d : Dats K H ds xs) : RepM K (upd H p (.lst xs)) (updM M p (.lst ds)) := fun a u e => by
  by_cases ha : a = p
  · subst ha
    rw [updM_same] at e; cases e
    exact ⟨xs, upd_same, Dats.mono (Ext.new n) _ _ d⟩
  · rw [updM_ne ha] at e
    exact r.new n a u e
theorem RepM.writeL {K : PySem.W.Frag} {M : Mp} {H : Hp} {p : Addr} {xs ys : List V} {ds : List D} (r : RepM K H M) (h : H p = some (.lst xs)) (d : Dats K H ds ys) : RepM K (upd H p (.lst ys)) (updM M p (.lst ds)) := fun a u e => by
  by_cases ha : a = p
  · subst ha
    rw [updM_same] at e; cases e
    exact ⟨ys, upd_same, Dats.mono (Ext.writeL h) _ _ d⟩
  · rw [updM_ne ha] at e
    cases u with
    | lst es =>
      obtain ⟨zs, e1, e2⟩ := r.lst e
      exact ⟨zs, by rw [upd_ne ha]; exact e1, Dats.mono (Ext.writeL h) _ _ e2⟩
abbrev En := List (Option D)
structure Rep (K : PySem.W.Frag) (H : Hp) (σ : St) (ρ : En) (M : Mp) : Prop where
  env : ∀ (i : Nat) d, ρ[i]? = some (some d) → ∃ v, σ[i]? = some (some v) ∧ Dat K H d v
  len : ρ.length = σ.length
  mem : RepM K H M
theorem Rep.go {K : PySem.W.Frag} {H H' : Hp} {σ : St} {ρ : En} {M M' : Mp} (r : Rep K H σ ρ M) (f : Fr M H M' H') (r' : RepM K H' M') : Rep K H' σ ρ M' :=
  ⟨fun i d e => let ⟨v, e1, e2⟩ := r.env i d e; ⟨v, e1, Dat.mono (f.ext r.mem) _ _ e2⟩, r.len, r'⟩
theorem Rep.set {K : PySem.W.Frag} {H : Hp} {σ : St} {ρ : En} {M : Mp} {i : Nat} {d : D} {v : V} (r : Rep K H σ ρ M) (h : Dat K H d v) : Rep K H (σ.set i (some v)) (ρ.set i (some d)) M := by
  refine ⟨fun j e q => ?_, by simp [r.len], r.mem⟩
  by_cases hj : i = j
  · subst hj
    by_cases hl : i < ρ.length
    · rw [List.getElem?_set_self hl] at q
      cases q
      exact ⟨v, List.getElem?_set_self (by rw [← r.len]; exact hl), h⟩
    · rw [List.getElem?_eq_none (by simp; omega)] at q; cases q
  · rw [List.getElem?_set_ne hj] at q ⊢
    exact r.env j e q
abbrev DK := D → Mp → Prop
abbrev TE3 := En → Mp → DK → Prop
abbrev TT3 := En → Mp → (Bool → Mp → Prop) → Prop
abbrev TA3 := En → Mp → (List D → Mp → Prop) → Prop
def Post (K : PySem.W.Frag) (M : Mp) (H : Hp) (Q : DK) : VK := fun v H' => ∃ d M', Fr M H M' H' ∧ Dat K H' d v ∧ RepM K H' M' ∧ Q d M'
def PostB (K : PySem.W.Frag) (M : Mp) (H : Hp) (Q : Bool → Mp → Prop) : Bool → Hp → Prop := fun b H' => ∃ M', Fr M H M' H' ∧ RepM K H' M' ∧ Q b M'
def PostA (K : PySem.W.Frag) (M : Mp) (H : Hp) (Q : List D → Mp → Prop) : List V → Hp → Prop := fun vs H' => ∃ ds M', Fr M H M' H' ∧ Dats K H' ds vs ∧ RepM K H' M' ∧ Q ds M'
structure PE3 (X : Cx) (e : Expr) (t : TE3) : Prop where
  run : ∀ (pins : List (Addr × Obj)) (s : Shared) (σ : St) (H : Hp) (ρ : En) (M : Mp) (Q : DK), Inv X pins σ H s → Rep X.K H σ ρ M → t ρ M Q → wpAny (model X.prog X.w) X.A (eval e X.env) (EP X pins σ (Post X.K M H Q)) X.xe s
structure PT3 (X : Cx) (e : Expr) (t : TT3) : Prop where
  run : ∀ (pins : List (Addr × Obj)) (s : Shared) (σ : St) (H : Hp) (ρ : En) (M : Mp) (Q : Bool → Mp → Prop), Inv X pins σ H s → Rep X.K H σ ρ M → t ρ M Q → wpAny (model X.prog X.w) X.A (isTrue e X.env (eval e X.env)) (TP X pins σ (PostB X.K M H Q)) X.xe s
structure PW3 (X : Cx) (e : Expr) (t : TT3) : Prop where
  run : ∀ (whole : Sem Value) (pins : List (Addr × Obj)) (s : Shared) (σ : St) (H : Hp) (ρ : En) (M : Mp) (Q : Bool → Mp → Prop), Inv X pins σ H s → Rep X.K H σ ρ M → t ρ M Q → wpAny (model X.prog X.w) X.A (isTrue e X.env whole) (TP X pins σ (PostB X.K M H Q)) X.xe s
theorem PW3.pt {X : Cx} {e : Expr} {t : TT3} (h : PW3 X e t) : PT3 X e t := ⟨h.run _⟩
structure PA3 (X : Cx) (es : List Expr) (t : TA3) : Prop where
  run : ∀ (pos : Pos) (pins : List (Addr × Obj)) (s : Shared) (σ : St) (H : Hp) (ρ : En) (M : Mp) (Q : List D → Mp → Prop), Inv X pins σ H s → Rep X.K H σ ρ M → t ρ M Q → wpAny (model X.prog X.w) X.A (spliced (backTo pos (starEach es X.env))) (AP X pins σ (PostA X.K M H Q)) X.xe s
structure En3 where
  nx : En → Mp → Prop
  rt : DK
  bk : En → Mp → Prop := fun _ _ => False
  ct : En → Mp → Prop := fun _ _ => False
abbrev TS3 := En3 → En → Mp → Prop
def PostN (K : PySem.W.Frag) (M : Mp) (H : Hp) (Q : En → Mp → Prop) : St → Hp → Prop := fun σ' H' => ∃ ρ' M', Fr M H M' H' ∧ Rep K H' σ' ρ' M' ∧ Q ρ' M'
def ends (K : PySem.W.Frag) (M : Mp) (H : Hp) (D : En3) : Ends := { nx := PostN K M H D.nx, rt := Post K M H D.rt, bk := PostN K M H D.bk, ct := PostN K M H D.ct }
structure PS3 (X : Cx) (st : Stmt) (t : TS3) : Prop where
  run : ∀ (pins : List (Addr × Obj)) (s : Shared) (σ : St) (H : Hp) (ρ : En) (M : Mp) (D : En3), Inv X pins σ H s → Rep X.K H σ ρ M → t D ρ M → wpAny (model X.prog X.w) X.A (exec st X.env) (SP X pins (ends X.K M H D)) X.xe s
structure PSs3 (X : Cx) (st : List Stmt) (t : TS3) : Prop where
  run : ∀ (pins : List (Addr × Obj)) (s : Shared) (σ : St) (H : Hp) (ρ : En) (M : Mp) (D : En3), Inv X pins σ H s → Rep X.K H σ ρ M → t D ρ M → wpAny (model X.prog X.w) X.A (execs st X.env) (SP X pins (ends X.K M H D)) X.xe s
section
variable {X : Cx}
theorem up {e : Expr} {te : TE} {t : TE3} (h : PE X e te) (g : ∀ σ H ρ M Q, Rep X.K H σ ρ M → t ρ M Q → te σ H (Post X.K M H Q)) : PE3 X e t :=
  ⟨fun pins s σ H ρ M Q I r q => h pins s σ H _ I (g σ H ρ M Q r q)⟩
theorem upT {e : Expr} {te : TT} {t : TT3} (h : PT X e te) (g : ∀ σ H ρ M Q, Rep X.K H σ ρ M → t ρ M Q → te σ H (PostB X.K M H Q)) : PT3 X e t :=
  ⟨fun pins s σ H ρ M Q I r q => h pins s σ H _ I (g σ H ρ M Q r q)⟩
theorem upS {st : Stmt} {te : TS} {t : TS3} (h : PS X st te) (g : ∀ σ H ρ M D, Rep X.K H σ ρ M → t D ρ M → te (ends X.K M H D) σ H) : PS3 X st t :=
  ⟨fun pins s σ H ρ M D I r q => h pins s σ H _ I (g σ H ρ M D r q)⟩
def dn (K : PySem.W.Frag) (t : TE3) : TE := fun σ H Q' => ∃ ρ M Q, Rep K H σ ρ M ∧ t ρ M Q ∧ ∀ v H', Post K M H Q v H' → Q' v H'
def dnT (K : PySem.W.Frag) (t : TT3) : TT := fun σ H Q' => ∃ ρ M Q, Rep K H σ ρ M ∧ t ρ M Q ∧ ∀ v H', PostB K M H Q v H' → Q' v H'
def dnA (K : PySem.W.Frag) (t : TA3) : TA := fun σ H Q' => ∃ ρ M Q, Rep K H σ ρ M ∧ t ρ M Q ∧ ∀ v H', PostA K M H Q v H' → Q' v H'
def dnS (K : PySem.W.Frag) (t : TS3) : TS := fun D' σ H => ∃ ρ M D, Rep K H σ ρ M ∧ t D ρ M ∧ (∀ σ' H', PostN K M H D.nx σ' H' → D'.nx σ' H') ∧ (∀ v H', Post K M H D.rt v H' → D'.rt v H') ∧ (∀ σ' H', PostN K M H D.bk σ' H' → D'.bk σ' H') ∧ (∀ σ' H', PostN K M H D.ct σ' H' → D'.ct σ' H')
theorem PE3.dn {e : Expr} {t : TE3} (h : PE3 X e t) : PE X e (dn X.K t) := fun pins s σ H Q' I ⟨ρ, M, Q, r, q, k⟩ =>
  thn (h.run pins s σ H ρ M Q I r q) fun _ _ ⟨v, H', I', rv, p⟩ => ⟨v, H', I', rv, k v H' p⟩
theorem PT3.dn {e : Expr} {t : TT3} (h : PT3 X e t) : PT X e (dnT X.K t) := fun pins s σ H Q' I ⟨ρ, M, Q, r, q, k⟩ =>
  thn (h.run pins s σ H ρ M Q I r q) fun _ _ ⟨H', I', p⟩ => ⟨H', I', k _ H' p⟩
theorem PW3.dn {e : Expr} {t : TT3} (h : PW3 X e t) : PW X e (dnT X.K t) := fun wh pins s σ H Q' I ⟨ρ, M, Q, r, q, k⟩ =>
  thn (h.run wh pins s σ H ρ M Q I r q) fun _ _ ⟨H', I', p⟩ => ⟨H', I', k _ H' p⟩
theorem PA3.dn {es : List Expr} {t : TA3} (h : PA3 X es t) : PA X es (dnA X.K t) := fun pos pins s σ H Q' I ⟨ρ, M, Q, r, q, k⟩ =>
  thn (h.run pos pins s σ H ρ M Q I r q) fun _ _ ⟨vs, H', I', rv, p⟩ => ⟨vs, H', I', rv, k vs H' p⟩
theorem PSs3.dn {sts : List Stmt} {t : TS3} (h : PSs3 X sts t) : PSs X sts (dnS X.K t) := fun pins s σ H D' I ⟨ρ, M, D, r, q, k1, k2, k3, k4⟩ =>
  thn (h.run pins s σ H ρ M D I r q) fun f s' z => by
    cases f with
    | next => obtain ⟨σ', H', I', p⟩ := z; exact ⟨σ', H', I', k1 _ _ p⟩
    | brk => obtain ⟨σ', H', I', p⟩ := z; exact ⟨σ', H', I', k3 _ _ p⟩
    | cont => obtain ⟨σ', H', I', p⟩ := z; exact ⟨σ', H', I', k4 _ _ p⟩
    | ret u => obtain ⟨v, σ', H', I', rv, p⟩ := z; exact ⟨v, σ', H', I', rv, k2 _ _ p⟩
theorem dn_of {K : PySem.W.Frag} {t : TE3} {σ : St} {H : Hp} {ρ : En} {M : Mp} {Q : DK} {Q' : VK} (r : Rep K H σ ρ M) (q : t ρ M Q) (k : ∀ v H' d M', Fr M H M' H' → Dat K H' d v → Rep K H' σ ρ M' → Q d M' → Q' v H') : dn K t σ H Q' :=
  ⟨ρ, M, Q, r, q, fun v H' ⟨d, M', f, dv, rm, p⟩ => k v H' d M' f dv (r.go f rm) p⟩
theorem dnT_of {K : PySem.W.Frag} {t : TT3} {σ : St} {H : Hp} {ρ : En} {M : Mp} {Q : Bool → Mp → Prop} {Q' : Bool → Hp → Prop} (r : Rep K H σ ρ M) (q : t ρ M Q) (k : ∀ b H' M', Fr M H M' H' → Rep K H' σ ρ M' → Q b M' → Q' b H') : dnT K t σ H Q' :=
  ⟨ρ, M, Q, r, q, fun b H' ⟨M', f, rm, p⟩ => k b H' M' f (r.go f rm) p⟩
theorem dnA_of {K : PySem.W.Frag} {t : TA3} {σ : St} {H : Hp} {ρ : En} {M : Mp} {Q : List D → Mp → Prop} {Q' : List V → Hp → Prop} (r : Rep K H σ ρ M) (q : t ρ M Q) (k : ∀ vs H' ds M', Fr M H M' H' → Dats K H' ds vs → Rep K H' σ ρ M' → Q ds M' → Q' vs H') : dnA K t σ H Q' :=
  ⟨ρ, M, Q, r, q, fun v H' ⟨d, M', f, dv, rm, p⟩ => k v H' d M' f dv (r.go f rm) p⟩
theorem post_self {K : PySem.W.Frag} {M : Mp} {H : Hp} {Q : DK} {d : D} {v : V} (rm : RepM K H M) (h : Dat K H d v) (q : Q d M) : Post K M H Q v H := ⟨d, M, .refl _ _, h, rm, q⟩
theorem Post.back {K : PySem.W.Frag} {M M1 : Mp} {H H1 : Hp} {Q : DK} {v : V} {H' : Hp} (f : Fr M H M1 H1) (p : Post K M1 H1 Q v H') : Post K M H Q v H' := by
  obtain ⟨d, M', f', dv, rm, q⟩ := p
  exact ⟨d, M', f.trans f', dv, rm, q⟩
theorem PostB.back {K : PySem.W.Frag} {M M1 : Mp} {H H1 : Hp} {Q : Bool → Mp → Prop} {b : Bool} {H' : Hp} (f : Fr M H M1 H1) (p : PostB K M1 H1 Q b H') : PostB K M H Q b H' := by
  obtain ⟨M', f', rm, q⟩ := p
  exact ⟨M', f.trans f', rm, q⟩
theorem PostN.back {K : PySem.W.Frag} {M M1 : Mp} {H H1 : Hp} {Q : En → Mp → Prop} {σ : St} {H' : Hp} (f : Fr M H M1 H1) (p : PostN K M1 H1 Q σ H') : PostN K M H Q σ H' := by
  obtain ⟨ρ', M', f', r, q⟩ := p
  exact ⟨ρ', M', f.trans f', r, q⟩
end
end L3
namespace L3
open PySem PySem.Spec PyProof.Rows L2
section
variable {X : Cx} {a b c : Expr} {ta tb tc : TE3} {pos : Pos}
def tVar3 (i : Nat) : TE3 := fun ρ M Q => ∃ d, ρ[i]? = some (some d) ∧ Q d M
def tC3 (d : D) : TE3 := fun _ M Q => Q d M
theorem q_var (i : Nat) {x : Str} {pos : Pos} (hN : X.N[i]? = some x := by rfl) (hv : Vis X.env.scope x := by first | exact Or.inl rfl | exact Or.inr (Or.inl rfl) | exact Or.inr (Or.inr rfl)) (hd : (x == ("__debug__" : Str)) = false := by decide)
    (hcd : (x == ("__classdict__" : Str)) = false := by decide) : PE3 X (.Name x pos) (tVar3 i) :=
  up (pe_var hN hv hd hcd) fun σ H ρ M Q r ⟨d, e, q⟩ => by
    obtain ⟨v, e1, e2⟩ := r.env i d e
    exact ⟨v, e1, post_self r.mem e2 q⟩
theorem q_int {i j pos} : PE3 X (.Constant (.int i) j pos) (tC3 (.int i)) := up pe_int fun _ _ _ _ _ r q => post_self r.mem (dat_int.mpr rfl) q
theorem q_bl {b j pos} : PE3 X (.Constant (.bool b) j pos) (tC3 (.bl b)) := up pe_bl fun _ _ _ _ _ r q => post_self r.mem (dat_bl.mpr rfl) q
theorem q_non {j pos} : PE3 X (.Constant .none j pos) (tC3 .non) := up pe_non fun _ _ _ _ _ r q => post_self r.mem (dat_non.mpr rfl) q
theorem q_str {x j pos} : PE3 X (.Constant (.str x) j pos) (tC3 (.str x)) := up pe_str fun _ _ _ _ _ r q => post_self r.mem (dat_str.mpr rfl) q
theorem q_cls {x : Str} {C : Addr} {pos : Pos} (hg : Gl X x) (hm : X.mg x = some (.ref C)) (hd : (x == ("__debug__" : Str)) = false := by decide) : PE3 X (.Name x pos) (tC3 (.ref C)) :=
  up (pe_glob (v := .ref C) hg hm rfl hd) fun _ _ _ _ _ r q => post_self r.mem (dat_ref.mpr rfl) q
theorem q_type {x : Str} {n : String} {pos : Pos} (hg : Gl X x) (hm : X.mg x = none) (hv : bootBuiltins x = some (.type n)) (hn : x ≠ "__name__" := by decide) (hd : (x == ("__debug__" : Str)) = false := by decide) : PE3 X (.Name x pos) (tC3 (.ty n)) :=
  up (pe_bltn (v := .ty n) hg hm hv rfl hn hd) fun _ _ _ _ _ r q => post_self r.mem (dat_ty.mpr rfl) q
abbrev R3 := D → D → Mp → DK → Prop
structure Op3 (X : Cx) (f : Value → Value → Sem Value) (t : R3) : Prop where
  run : ∀ (pins : List (Addr × Obj)) (s : Shared) (σ : St) (H : Hp) (M : Mp) (x y : V) (d e : D) (v u : Value) (Q : DK), Inv X pins σ H s → RepM X.K H M → RelV x v → RelV y u → Dat X.K H d x → Dat X.K H e y → t d e M Q →
    wpAny (model X.prog X.w) X.A (f v u) (EP X pins σ (Post X.K M H Q)) X.xe s
theorem op3 {f : Value → Value → Sem Value} {r : R2} {t : R3} (h : OpR X f r) (g : ∀ H M x y d e Q, RepM X.K H M → Dat X.K H d x → Dat X.K H e y → t d e M Q → r x y H (Post X.K M H Q)) : Op3 X f t :=
  ⟨fun pins s σ H M x y d e v u Q I rm rx ry dx dy q => h pins s σ H x y v u _ I rx ry (g H M x y d e Q rm dx dy q)⟩
def tBin (t : R3) (ta tb : TE3) : TE3 := fun ρ M Q => ta ρ M fun x M1 => tb ρ M1 fun y M2 => t x y M2 Q
theorem two3 (ha : PE3 X a ta) (hb : PE3 X b tb) {pins : List (Addr × Obj)} {s : Shared} {σ : St} {H : Hp} {ρ : En} {M : Mp} {R : D → D → Mp → Prop} (I : Inv X pins σ H s) (r : Rep X.K H σ ρ M)
    (h : ta ρ M fun x M1 => tb ρ M1 fun y M2 => R x y M2) {Q : Value → Shared → Prop} {f : Value → Value → Sem Value}
    (hf : ∀ v u s2 x y d e H2 M2, Inv X pins σ H2 s2 → Rep X.K H2 σ ρ M2 → Fr M H M2 H2 → RelV x v → RelV y u → Dat X.K H2 d x → Dat X.K H2 e y → R d e M2 → wpAny (model X.prog X.w) X.A (f v u) Q X.xe s2) :
    wpAny (model X.prog X.w) X.A (eval a X.env) (fun v s₁ => wpAny (model X.prog X.w) X.A (eval b X.env) (fun u s₂ => wpAny (model X.prog X.w) X.A (f v u) Q X.xe s₂) X.xe s₁) X.xe s := by
  refine thn (ha.run pins s σ H ρ M _ I r h) fun v s1 ⟨x, H1, I1, r1, d, M1, f1, d1, rm1, q1⟩ => ?_
  have R1 := r.go f1 rm1
  refine thn (hb.run pins s1 σ H1 ρ M1 _ I1 R1 q1) fun u s2 ⟨y, H2, I2, r2, e, M2, f2, d2, rm2, q2⟩ => ?_
  exact hf v u s2 x y d e H2 M2 I2 (R1.go f2 rm2) (f1.trans f2) r1 r2 (Dat.mono (f2.ext rm1) _ _ d1) d2 q2
theorem q_bin {op : Operator} {t : R3} (ho : Op3 X (binaryOp op) t) (ha : PE3 X a ta) (hb : PE3 X b tb) : PE3 X (.BinOp a op b pos) (tBin t ta tb) := by
  constructor
  intro pins s σ H ρ M Q I r h
  refine wpAny_BinOp (two3 ha hb I r h fun v u s2 x y d e H2 M2 I2 R2 f rx ry dx dy q => ?_)
  exact thn (ho.run pins s2 σ H2 M2 x y d e v u Q I2 R2.mem rx ry dx dy q) fun _ _ ⟨z, H3, I3, r3, p⟩ => ⟨z, H3, I3, r3, p.back f⟩
theorem q_cmp {op : CmpOp} {t : R3} (ho : Op3 X (compareOp op) t) (ha : PE3 X a ta) (hb : PE3 X b tb) (hm : behindInMarks op b = false) : PE3 X (.Compare a [op] [b] pos) (tBin t ta tb) := by
  constructor
  intro pins s σ H ρ M Q I r h
  refine wpAny_Compare1 (two3 ha hb I r h fun v u s2 x y d e H2 M2 I2 R2 f rx ry dx dy q => ?_) hm
  exact thn (ho.run pins s2 σ H2 M2 x y d e v u Q I2 R2.mem rx ry dx dy q) fun _ _ ⟨z, H3, I3, r3, p⟩ => ⟨z, H3, I3, r3, p.back f⟩
def tTest3 (t : TE3) : TT3 := fun ρ M Q => t ρ M fun x M' => ∃ k, x = .bl k ∧ Q k M'
theorem k_cmp {op : CmpOp} {t : R3} (ho : Op3 X (compareOp op) t) (ha : PE3 X a ta) (hb : PE3 X b tb) (hm : behindInMarks op b = false) : PT3 X (.Compare a [op] [b] pos) (tTest3 (tBin t ta tb)) := by
  constructor
  intro pins s σ H ρ M Q I r h
  refine wpAny_isTrue_Compare1 (thn (ha.run pins s σ H ρ M _ I r h) fun v s1 ⟨x, H1, I1, r1, d, M1, f1, d1, rm1, q1⟩ => thn (hb.run pins s1 σ H1 ρ M1 _ I1 (r.go f1 rm1) q1) fun u s2 ⟨y, H2, I2, r2, e, M2, f2, d2, rm2, q2⟩ =>
    thn (ho.run pins s2 σ H2 M2 x y d e v u _ I2 rm2 r1 r2 (Dat.mono (f2.ext rm1) _ _ d1) d2 q2) fun w s3 ⟨z, H3, I3, r3, dz, M3, f3, d3, rm3, k, ek, q3⟩ => ?_) hm
  subst ek
  obtain rfl := dat_bl.mp d3
  cases r3
  exact wpAny_truthy_bool ⟨H3, I3, M3, (f1.trans f2).trans f3, rm3, q3⟩
theorem k_val {e : Expr} {t : TE3} (h : PE3 X e t) (he : ∀ whole, isTrue e X.env whole = (do let v ← whole; standAt e.pos; holding [v] (truthy v)) := by intro _; rfl) : PT3 X e (tTest3 t) := by
  constructor
  intro pins s σ H ρ M Q I r hw
  refine isTrue_plain (thn (h.run pins s σ H ρ M _ I r hw) fun v s1 ⟨x, H1, I1, r1, d, M1, f1, d1, rm1, k, ek, q1⟩ => ?_) (he _)
  subst ek
  obtain rfl := dat_bl.mp d1
  cases r1
  exact wpAny_truthy_bool ⟨H1, I1, M1, f1, rm1, q1⟩
def tChain3 (t t' : R3) (ta tb tc : TE3) : TE3 := fun ρ M Q => ta ρ M fun x M1 => tb ρ M1 fun y M2 => t x y M2 fun z M3 => ∃ k, z = .bl k ∧
  (if k = true then tc ρ M3 fun w M4 => t' y w M4 Q else Q (.bl false) M3)
theorem q_chain {op op' : CmpOp} {t t' : R3} (ho : Op3 X (compareOp op) t) (ho' : Op3 X (compareOp op') t') (ha : PE3 X a ta) (hb : PE3 X b tb) (hc : PE3 X c tc)
    (hm : lastMarks [op, op'] [b, c] = false := by with_unfolding_all rfl) : PE3 X (.Compare a [op, op'] [b, c] pos) (tChain3 t t' ta tb tc) := by
  constructor
  intro pins s σ H ρ M Q I r h
  refine Compare_chain (thn (ha.run pins s σ H ρ M _ I r h) fun v s1 ⟨x, H1, I1, r1, d, M1, f1, d1, rm1, q1⟩ => chain_link (thn (hb.run pins s1 σ H1 ρ M1 _ I1 (r.go f1 rm1) q1) fun u s2 ⟨y, H2, I2, r2, e, M2, f2, d2, rm2, q2⟩ =>
    thn (ho.run pins s2 σ H2 M2 x y d e v u _ I2 rm2 r1 r2 (Dat.mono (f2.ext rm1) _ _ d1) d2 q2) fun w s3 ⟨z, H3, I3, r3, dz, M3, f3, d3, rm3, k, ek, q3⟩ => ?_)) hm
  subst ek
  obtain rfl := dat_bl.mp d3
  cases r3
  have f13 := (f1.trans f2).trans f3
  refine wpAny_truthy_bool ?_
  cases k with
  | false => exact ite_ff ⟨.bl false, H3, I3, rfl, .bl false, M3, f13, dat_bl.mpr rfl, rm3, q3⟩
  | true =>
    refine ite_tt (chain_last (thn (hc.run pins s3 σ H3 ρ M3 _ I3 ((r.go (f1.trans f2) rm2).go f3 rm3) q3) fun w' s4 ⟨z', H4, I4, r4, d', M4, f4, d4, rm4, q4⟩ => ?_))
    exact thn (ho'.run pins s4 σ H4 M4 y z' e d' u w' Q I4 rm4 r2 r4 (Dat.mono ((f3.trans f4).ext rm2) _ _ d2) d4 q4) fun _ _ ⟨z, H5, I5, r5, p⟩ => ⟨z, H5, I5, r5, p.back (f13.trans f4)⟩
variable {tA tB : TT3} {rest : List Expr}
def tOr3 (t u : TT3) : TT3 := fun ρ M Q => t ρ M fun c M1 => if c = true then Q true M1 else u ρ M1 Q
def tNot3 (t : TT3) : TT3 := fun ρ M Q => t ρ M fun c M1 => Q (!c) M1
theorem k_or1 (ha : PT3 X a tA) : PW3 X (.BoolOp .Or [a] pos) tA := ⟨fun wh pins s σ H ρ M Q I r h => thn (pw_or1 ha.dn wh pins s σ H _ I ⟨ρ, M, Q, r, h, fun _ _ z => z⟩) fun _ _ z => z⟩
theorem k_or (ha : PT3 X a tA) (hb : PW3 X (.BoolOp .Or (b :: rest) pos) tB) : PW3 X (.BoolOp .Or (a :: b :: rest) pos) (tOr3 tA tB) := ⟨fun wh pins s σ H ρ M Q I r h =>
  pw_or ha.dn hb.dn wh pins s σ H _ I (dnT_of r h fun c H' M' f r' q => by
    cases c with
    | true => exact ⟨M', f, r'.mem, q⟩
    | false => exact ⟨ρ, M', Q, r', q, fun _ _ p => p.back f⟩)⟩
theorem k_not (ha : PT3 X a tA) : PT3 X (.UnaryOp .Not a pos) (tNot3 tA) := upT (pt_not ha.dn) fun σ H ρ M Q r h => dnT_of r h fun _ _ M' f r' q => ⟨M', f, r'.mem, q⟩
def tAndV3 (ta tb : TE3) : TE3 := fun ρ M Q => ta ρ M fun x M1 => ∃ c, x = .bl c ∧ if c = true then tb ρ M1 Q else Q (.bl false) M1
def tNotV3 (ta : TE3) : TE3 := fun ρ M Q => ta ρ M fun x M1 => ∃ c, x = .bl c ∧ Q (.bl (!c)) M1
theorem q_one {op} {t : TE3} (h : PE3 X a t) : PE3 X (.BoolOp op [a] pos) t := ⟨fun pins s σ H ρ M Q I r hw => BoolOp_one (h.run pins s σ H ρ M Q I r hw)⟩
theorem q_and (ha : PE3 X a ta) (hb : PE3 X (.BoolOp .And (b :: rest) pos) tb) : PE3 X (.BoolOp .And (a :: b :: rest) pos) (tAndV3 ta tb) := up (pe_and ha.dn hb.dn) fun σ H ρ M Q r h => dn_of r h fun v H' d M' f dv r' ⟨k, ek, q⟩ => by
  subst ek
  obtain rfl := dat_bl.mp dv
  refine ⟨k, rfl, ?_⟩
  cases k with
  | true => exact ⟨ρ, M', Q, r', q, fun _ _ p => p.back f⟩
  | false => exact ⟨.bl false, M', f, dat_bl.mpr rfl, r'.mem, q⟩
theorem q_not (ha : PE3 X a ta) : PE3 X (.UnaryOp .Not a pos) (tNotV3 ta) := up (pe_not ha.dn) fun σ H ρ M Q r h => dn_of r h fun v H' d M' f dv r' ⟨k, ek, q⟩ => by
  subst ek
  obtain rfl := dat_bl.mp dv
  exact ⟨k, rfl, .bl (!k), M', f, dat_bl.mpr rfl, r'.mem, q⟩
def tIf3 (t : TT3) (ta tb : TE3) : TE3 := fun ρ M Q => t ρ M fun c M1 => if c = true then ta ρ M1 Q else tb ρ M1 Q
theorem q_if {c : Expr} (hc : PT3 X c tA) (ha : PE3 X a ta) (hb : PE3 X b tb) : PE3 X (.IfExp c a b pos) (tIf3 tA ta tb) := up (pe_ifExp hc.dn ha.dn hb.dn) fun σ H ρ M Q r h => dnT_of r h fun k H' M' f r' q => by
  cases k with
  | true => exact ⟨ρ, M', Q, r', q, fun _ _ p => p.back f⟩
  | false => exact ⟨ρ, M', Q, r', q, fun _ _ p => p.back f⟩
def tUn3 (t : D → Mp → DK → Prop) (ta : TE3) : TE3 := fun ρ M Q => ta ρ M fun x M1 => t x M1 Q
def rNeg : D → Mp → DK → Prop := fun d M Q => ∃ i, d = .int i ∧ Q (.int (-i)) M
theorem q_neg (ha : PE3 X a ta) : PE3 X (.UnaryOp .USub a pos) (tUn3 rNeg ta) := up (pe_un un_neg ha.dn) fun σ H ρ M Q r h => dn_of r h fun v H' d M' f dv r' ⟨i, ek, q⟩ => by
  subst ek
  obtain rfl := dat_int.mp dv
  exact ⟨i, rfl, .int (-i), M', f, dat_int.mpr rfl, r'.mem, q⟩
def Sm (n : Nat) (i : Int) : Prop := i.natAbs < 2 ^ n
def MulOk (i j : Int) : Prop := ∃ m n, Sm m i ∧ Sm n j ∧ m + n ≤ 100000
theorem log2_of_lt {k n : Nat} (h : k < 2 ^ n) : k.log2 ≤ n := by
  rcases Nat.eq_zero_or_pos k with z | z
  · subst z; simp
  · exact Nat.le_of_lt (by rw [Nat.log2_lt (by omega)]; exact h)
theorem bits_of {n : Nat} {i : Int} (h : Sm n i) : Builtin.Int.intBits i ≤ n + 1 := by
  unfold Builtin.Int.intBits
  have := log2_of_lt h
  first
    | (split <;> omega)
    | omega
theorem MulOk.ok {i j : Int} (h : MulOk i j) : IntMulOk i j := by
  obtain ⟨m, n, h1, h2, h3⟩ := h
  have b1 := bits_of h1
  have b2 := bits_of h2
  exact IntMulOk.of_bits (by omega) (by omega)
def rInt (g : Int → Int → Int) : R3 := fun d e M Q => ∃ i j, d = .int i ∧ e = .int j ∧ Q (.int (g i j)) M
def rIntC (C : Int → Int → Prop) (g : Int → Int → Int) : R3 := fun d e M Q => ∃ i j, d = .int i ∧ e = .int j ∧ C i j ∧ Q (.int (g i j)) M
def rIntB (g : Int → Int → Bool) : R3 := fun d e M Q => ∃ i j, d = .int i ∧ e = .int j ∧ Q (.bl (g i j)) M
theorem int3 {f : Value → Value → Sem Value} {g : Int → Int → Int} (h : OpR X f (rI0 fun i j => .int (g i j))) : Op3 X f (rInt g) := op3 h fun H M x y d e Q rm dx dy ⟨i, j, e1, e2, q⟩ => by
  subst e1; subst e2
  exact ⟨i, j, dat_int.mp dx, dat_int.mp dy, post_self rm (dat_int.mpr rfl) q⟩
theorem int3C {f : Value → Value → Sem Value} {C : Int → Int → Prop} {g : Int → Int → Int} (h : OpR X f (rI C fun i j => .int (g i j))) : Op3 X f (rIntC C g) := op3 h fun H M x y d e Q rm dx dy ⟨i, j, e1, e2, hc, q⟩ => by
  subst e1; subst e2
  exact ⟨i, j, dat_int.mp dx, dat_int.mp dy, hc, post_self rm (dat_int.mpr rfl) q⟩
theorem int3B {f : Value → Value → Sem Value} {g : Int → Int → Bool} (h : OpR X f (rI0 fun i j => .bl (g i j))) : Op3 X f (rIntB g) := op3 h fun H M x y d e Q rm dx dy ⟨i, j, e1, e2, q⟩ => by
  subst e1; subst e2
  exact ⟨i, j, dat_int.mp dx, dat_int.mp dy, post_self rm (dat_bl.mpr rfl) q⟩
theorem o_add : Op3 X (binaryOp .Add) (rInt fun i j => i + j) := int3 op_add
theorem o_sub : Op3 X (binaryOp .Sub) (rInt fun i j => i - j) := int3 op_sub
theorem o_mul : Op3 X (binaryOp .Mult) (rIntC MulOk fun i j => i * j) := int3C (opI fun _ _ _ _ _ _ _ hc q => mul_int q hc.ok)
theorem o_mod : Op3 X (binaryOp .Mod) (rIntC (fun _ j => 0 < j) fun i j => i % j) := int3C op_mod
def DivOk (_ j : Int) : Prop := 0 < j ∧ ∃ n, Sm n j ∧ n ≤ 8000
def DivNOk (_ j : Int) : Prop := j ≠ 0 ∧ ∃ n, Sm n j ∧ n ≤ 8000
theorem o_fdivN : Op3 X (binaryOp .FloorDiv) (rIntC DivNOk fun i j => i.fdiv j) := int3C (opI fun i j _ _ _ _ _ hc q => floordiv_int hc.1 q (.inl (PyProof.noPylong_of_log2 (by
  obtain ⟨_, n, h1, h2⟩ := hc
  have := log2_of_lt h1
  omega))))
theorem o_fdiv : Op3 X (binaryOp .FloorDiv) (rIntC DivOk fun i j => i / j) := int3C (opI fun i j _ _ _ _ _ hc q => floordiv_int (by have := hc.1; omega) (by rw [Int.fdiv_eq_ediv_of_nonneg _ (by have := hc.1; omega)]; exact q) (.inl (PyProof.noPylong_of_log2 (by
  obtain ⟨_, n, h1, h2⟩ := hc
  have := log2_of_lt h1
  omega))))
def PowOk (i j : Int) : Prop := 0 ≤ j ∧ j ≤ 1000 ∧ i.natAbs < 2 ^ 400
theorem PowOk.bits {i j : Int} (h : PowOk i j) : (Builtin.Int.intBits i : Int) * j ≤ 2 ^ 27 := by
  have hb : Builtin.Int.intBits i ≤ 401 := bits_of (n := 400) h.2.2
  have h1 : (Builtin.Int.intBits i : Int) * j ≤ 401 * j := Int.mul_le_mul_of_nonneg_right (by omega) h.1
  have := h.2.1
  omega
theorem o_pow : Op3 X (binaryOp .Pow) (rIntC PowOk fun i j => i ^ j.toNat) := int3C (opI fun _ _ _ _ _ _ _ hc q => pow_int hc.1 hc.bits q)
theorem o_lt : Op3 X (compareOp .Lt) (rIntB fun i j => decide (i < j)) := int3B op_lt
theorem o_le : Op3 X (compareOp .LtE) (rIntB fun i j => decide (i ≤ j)) := int3B op_le
theorem o_gt : Op3 X (compareOp .Gt) (rIntB fun i j => decide (j < i)) := int3B op_gt
inductive Sca where
  | non | bl (b : Bool) | int (i : Int) | str (x : Str)
  deriving DecidableEq
def Sca.d : Sca → D | .non => .non | .bl b => .bl b | .int i => .int i | .str x => .str x
def Sca.v : Sca → V | .non => .non | .bl b => .bl b | .int i => .int i | .str x => .str x
end
end L3
namespace L3
open PySem PySem.Spec PyProof.Rows L2
mutual
def eqD : D → D → Bool
  | .non, e => match e with | .non => true | _ => false
  | .bl a, e => match e with | .bl b => a == b | .int b => (if a then 1 else 0) == b | _ => false
  | .int a, e => match e with | .bl b => a == (if b then 1 else 0) | .int b => a == b | _ => false
  | .str a, e => match e with | .str b => a == b | _ => false
  | .tup as, e => match e with | .tup bs => eqDs as bs | _ => false
  | .ty _, _ => false
  | .ref _, _ => false
  | .frl _, _ => false
  | .thg _, _ => false
  | .exc _ _ _, _ => false
def eqDs : List D → List D → Bool
  | [], e => match e with | [] => true | _ => false
  | a :: as, e => match e with | [] => false | b :: bs => eqD a b && eqDs as bs
end
def plain : Nat → D → Bool
  | _, .non => true
  | _, .bl _ => true
  | _, .int _ => true
  | _, .str _ => true
  | n + 1, .tup ds => ds.all (plain n)
  | _, _ => false
theorem eqDs_nil : eqDs [] [] = true := by simp [eqDs]
theorem eqDs_cons (a b : D) (as bs : List D) : eqDs (a :: as) (b :: bs) = (eqD a b && eqDs as bs) := by simp [eqDs]
theorem eqD_tup (as bs : List D) : eqD (.tup as) (.tup bs) = eqDs as bs := by simp [eqD]
theorem eqD_int (a b : Int) : eqD (.int a) (.int b) = (a == b) := by simp [eqD]
theorem eqD_str (a b : Str) : eqD (.str a) (.str b) = (a == b) := by simp [eqD]
theorem eqDs_all : ∀ (ds es : List D), eqDs ds es = ((List.range (min ds.length es.length)).all (fun j => eqD (ds.getD j .non) (es.getD j .non)) && (ds.length == es.length))
  | [], [] => by simp [eqDs]
  | [], e :: es => by simp [eqDs]
  | d :: ds, [] => by simp [eqDs]
  | d :: ds, e :: es => by
    rw [eqDs_cons, eqDs_all ds es]
    have h : min (d :: ds).length (e :: es).length = min ds.length es.length + 1 := by simp only [List.length_cons]; omega
    rw [h, List.range_succ_eq_map, List.all_cons, List.all_map]
    simp only [List.getD_cons_zero, List.length_cons]
    have h2 : ((fun j => eqD ((d :: ds).getD j D.non) ((e :: es).getD j D.non)) ∘ Nat.succ) = fun j => eqD (ds.getD j D.non) (es.getD j D.non) := by
      funext j; simp
    rw [h2]
    have h3 : (ds.length + 1 == es.length + 1) = (ds.length == es.length) := by
      rw [Bool.eq_iff_iff]; simp
    rw [h3, Bool.and_assoc]
theorem eqD_refl : ∀ (n : Nat) (d : D), plain n d = true → eqD d d = true := by
  intro n
  induction n with
  | zero => intro d h; cases d <;> simp [plain] at h <;> simp [eqD]
  | succ n ih =>
    intro d h
    cases d with
    | tup ds =>
      have h : ds.all (plain n) = true := by simpa [plain] using h
      rw [eqD_tup]
      have : ∀ (es : List D), es.all (plain n) = true → eqDs es es = true := by
        intro es
        induction es with
        | nil => intro _; exact eqDs_nil
        | cons e es ihe =>
          intro h
          rw [List.all_cons, Bool.and_eq_true] at h
          rw [eqDs_cons, ih e h.1, ihe h.2]; rfl
      exact this ds h
    | _ => first | (simp [plain] at h; done) | (simp [eqD]; done)
section
variable {K : PySem.W.Frag} {H : Hp}
theorem Dat.inj : ∀ (n : Nat) (d e : D) (v : V), plain n d = true → plain n e = true → Dat K H d v → Dat K H e v → d = e := by
  intro n
  induction n with
  | zero =>
    intro d e v pd pe hd he
    cases d <;> simp [plain] at pd <;> cases e <;> simp [plain] at pe <;> simp only [Dat] at hd he <;> subst hd <;> first | rfl | (injection he with z; rw [z]) | cases he
  | succ n ih =>
    intro d e v pd pe hd he
    have lists : ∀ (ds es : List D) (xs : List V), ds.all (plain n) = true → es.all (plain n) = true → Dats K H ds xs → Dats K H es xs → ds = es := by
      intro ds
      induction ds with
      | nil =>
        intro es xs _ _ h1 h2
        rw [dats_nil.mp h1] at h2
        cases es with
        | nil => rfl
        | cons e es => obtain ⟨_, _, z, _⟩ := dats_cons.mp h2; cases z
      | cons d ds ihd =>
        intro es xs p1 p2 h1 h2
        obtain ⟨v, vs, rfl, g1, g2⟩ := dats_cons.mp h1
        cases es with
        | nil => cases dats_nil.mp h2
        | cons e es =>
          obtain ⟨v', vs', z, g3, g4⟩ := dats_cons.mp h2
          injection z with z1 z2
          subst z1; subst z2
          rw [List.all_cons, Bool.and_eq_true] at p1 p2
          rw [ih d e v p1.1 p2.1 g1 g3, ihd es vs p1.2 p2.2 g2 g4]
    cases d with
    | tup ds =>
      obtain ⟨a, xs, rfl, ha, hx⟩ := dat_tup.mp hd
      cases e with
      | tup es =>
        obtain ⟨b, ys, z, hb, hy⟩ := dat_tup.mp he
        injection z with z
        subst z
        rw [ha] at hb
        injection hb with hb
        injection hb with hb
        subst hb
        rw [lists ds es xs (by simpa [plain] using pd) (by simpa [plain] using pe) hx hy]
      | _ => first | (simp [plain] at pe; done) | (simp only [Dat] at he; cases he)
    | _ => first
      | (simp [plain] at pd; done)
      | (cases e <;> first
          | (simp [plain] at pe; done)
          | (obtain ⟨b, ys, z, hb, hy⟩ := dat_tup.mp he; simp only [Dat] at hd; subst hd; cases z; done)
          | (simp only [Dat] at hd he; subst hd; first | rfl | (injection he with z; rw [z]) | cases he))
end
theorem all_get {α : Type} {p : α → Bool} {xs : List α} (h : xs.all p = true) {i : Nat} {x : α} (e : xs[i]? = some x) : p x = true := (List.all_eq_true.mp h) x (List.mem_of_getElem? e)
section
variable {X : Cx} {pins : List (Addr × Obj)} {σ : St} {H : Hp} {s : Shared}
theorem tup_at {P : Program} {w : World} {h : Heap} {a : Addr} {xs : List V} (ok : HOk P w H h) (e : H a = some (.tup xs)) : ∃ its : List Value, Vals xs its ∧ IsTup h a its.toArray ∧ xs.length ≤ sizeLine := by
  obtain ⟨z, its, r, p⟩ := (show ObjOk P w H h a (.tup xs) from ok a _ e)
  exact ⟨its, r, p, z⟩
theorem eqAt_D {P : Program} {w : World} (ok : HOk P w H s.heap) {K : PySem.W.Frag} : ∀ (n : Nat) (A : Around) (d e : D) (x y : V) (u v : Value), A.units + n < cLine → plain n d = true → plain n e = true → Dat K H d x → Dat K H e y → RelV x u → RelV y v → SeqAt.EqAt A s u v (eqD d e) := by
  intro n
  induction n with
  | zero =>
    intro A d e x y u v hu pd pe dx dy rx ry
    cases d with
    | tup ds => simp [plain] at pd
    | ty _ => simp [plain] at pd
    | ref _ => simp [plain] at pd
    | frl _ => simp [plain] at pd
    | thg _ => simp [plain] at pd
    | exc _ _ _ => simp [plain] at pd
    | non =>
      obtain rfl := dat_non.mp dx
      cases rx
      cases e with
      | non => obtain rfl := dat_non.mp dy; cases ry; simpa [eqD] using SeqAt.EqAt.same (A := A) (s := s) Value.none
      | bl b => obtain rfl := dat_bl.mp dy; cases ry; simpa [eqD] using SeqAt.EqAt.none_bool (A := A) (s := s) b
      | int b => obtain rfl := dat_int.mp dy; obtain ⟨t, rfl⟩ := ry; simpa [eqD] using SeqAt.EqAt.none_int (A := A) (s := s) b t
      | str b => obtain rfl := dat_str.mp dy; obtain ⟨t, rfl⟩ := ry; simpa [eqD] using SeqAt.EqAt.none_str (A := A) (s := s) b t
      | _ => simp [plain] at pe
    | bl a =>
      obtain rfl := dat_bl.mp dx
      cases rx
      cases e with
      | non => obtain rfl := dat_non.mp dy; cases ry; simpa [eqD] using SeqAt.EqAt.bool_none (A := A) (s := s) a
      | bl b => obtain rfl := dat_bl.mp dy; cases ry; simpa [eqD] using SeqAt.EqAt.bool_bool (A := A) (s := s) a b
      | int b => obtain rfl := dat_int.mp dy; obtain ⟨t, rfl⟩ := ry; simpa [eqD] using SeqAt.EqAt.bool_int (A := A) (s := s) a b t
      | str b => obtain rfl := dat_str.mp dy; obtain ⟨t, rfl⟩ := ry; simpa [eqD] using SeqAt.EqAt.bool_str (A := A) (s := s) a b t
      | _ => simp [plain] at pe
    | int a =>
      obtain rfl := dat_int.mp dx
      obtain ⟨t', rfl⟩ := rx
      cases e with
      | non => obtain rfl := dat_non.mp dy; cases ry; simpa [eqD] using SeqAt.EqAt.int_none (A := A) (s := s) a t'
      | bl b => obtain rfl := dat_bl.mp dy; cases ry; simpa [eqD] using SeqAt.EqAt.int_bool (A := A) (s := s) a t' b
      | int b => obtain rfl := dat_int.mp dy; obtain ⟨t, rfl⟩ := ry; simpa [eqD] using SeqAt.EqAt.int_int (A := A) (s := s) a t' b t
      | str b => obtain rfl := dat_str.mp dy; obtain ⟨t, rfl⟩ := ry; simpa [eqD] using SeqAt.EqAt.int_str (A := A) (s := s) a t' b t
      | _ => simp [plain] at pe
    | str a =>
      obtain rfl := dat_str.mp dx
      obtain ⟨t', rfl⟩ := rx
      cases e with
      | non => obtain rfl := dat_non.mp dy; cases ry; simpa [eqD] using SeqAt.EqAt.str_none (A := A) (s := s) a t'
      | bl b => obtain rfl := dat_bl.mp dy; cases ry; simpa [eqD] using SeqAt.EqAt.str_bool (A := A) (s := s) a t' b
      | int b => obtain rfl := dat_int.mp dy; obtain ⟨t, rfl⟩ := ry; simpa [eqD] using SeqAt.EqAt.str_int (A := A) (s := s) a t' b t
      | str b => obtain rfl := dat_str.mp dy; obtain ⟨t, rfl⟩ := ry; simpa [eqD] using SeqAt.EqAt.str_str (A := A) (s := s) a t' b t
      | _ => simp [plain] at pe
  | succ n ih =>
    intro A d e x y u v hu pd pe dx dy rx ry
    have flat : ∀ (z : D), plain (n + 1) z = true → (∀ zs, z ≠ .tup zs) → plain n z = true := by
      intro z pz nz
      cases z with
      | tup zs => exact absurd rfl (nz zs)
      | _ => first | (simp [plain]; done) | (simp [plain] at pz; done)
    have hun : A.units < cLine := by omega
    cases d with
    | tup ds =>
      obtain ⟨a, xs, rfl, ha, hx⟩ := dat_tup.mp dx
      obtain rfl : u = Value.ref a := rx
      obtain ⟨its, rv, pt, hz⟩ := tup_at ok ha
      cases e with
      | tup es =>
        obtain ⟨b, ys, rfl, hb, hy⟩ := dat_tup.mp dy
        obtain rfl : v = Value.ref b := ry
        obtain ⟨its2, rv2, pt2, hz2⟩ := tup_at ok hb
        by_cases hab : a = b
        · subst hab
          have := Dat.inj (K := K) (H := H) (n + 1) _ _ _ pd pe dx dy
          rw [← this, eqD_refl (n + 1) _ pd]
          exact SeqAt.EqAt.same _
        · refine SeqAt.EqAt.of_refs hab ?_
          have hl1 := hx.length.trans rv.length
          have hl2 := hy.length.trans rv2.length
          have key := SeqAt.RcAt.tuples (A := A) (s := s) (e := fun j => eqD (ds.getD j .non) (es.getD j .non)) pt pt2 hun (fun j h1 h2 => ?_)
          · rw [eqD_tup, eqDs_all]
            simp only [List.size_toArray, ← hl1, ← hl2] at key
            exact key
          · simp only [List.size_toArray] at h1 h2
            have e1 : ds[j]? = some (ds.getD j .non) := by rw [List.getD_eq_getElem?_getD, List.getElem?_eq_getElem (by omega)]; rfl
            have e2 : es[j]? = some (es.getD j .non) := by rw [List.getD_eq_getElem?_getD, List.getElem?_eq_getElem (by omega)]; rfl
            obtain ⟨x1, g1, g2⟩ := hx.get e1
            obtain ⟨y1, g3, g4⟩ := hy.get e2
            obtain ⟨u1, g5, g6⟩ := rv.get g1
            obtain ⟨v1, g7, g8⟩ := rv2.get g3
            have q1 : its.toArray[j] = u1 := by
              have : its[j] = u1 := Option.some.inj ((List.getElem?_eq_getElem (by omega)).symm.trans g5)
              simpa using this
            have q2 : its2.toArray[j] = v1 := by
              have : its2[j] = v1 := Option.some.inj ((List.getElem?_eq_getElem (by omega)).symm.trans g7)
              simpa using this
            rw [q1, q2]
            have pd' : ds.all (plain n) = true := by simpa [plain] using pd
            have pe' : es.all (plain n) = true := by simpa [plain] using pe
            exact ih A.in1 _ _ x1 y1 u1 v1 (by show A.units + 1 + n < cLine; omega) (all_get pd' e1) (all_get pe' e2) g2 g4 g6 g8
      | non => obtain rfl := dat_non.mp dy; cases ry; simpa [eqD] using SeqAt.EqAt.tuple_none (A := A) (s := s) pt hun
      | bl b => obtain rfl := dat_bl.mp dy; cases ry; simpa [eqD] using SeqAt.EqAt.tuple_bool (A := A) (s := s) b pt hun
      | int b => obtain rfl := dat_int.mp dy; obtain ⟨t, rfl⟩ := ry; simpa [eqD] using SeqAt.EqAt.tuple_int (A := A) (s := s) b t pt hun
      | str b => obtain rfl := dat_str.mp dy; obtain ⟨t, rfl⟩ := ry; simpa [eqD] using SeqAt.EqAt.tuple_str (A := A) (s := s) b t pt hun
      | _ => simp [plain] at pe
    | _ =>
      first
      | (simp [plain] at pd; done)
      | (cases e with
          | tup es =>
            obtain ⟨b, ys, rfl, hb, hy⟩ := dat_tup.mp dy
            obtain rfl : v = Value.ref b := ry
            obtain ⟨its2, rv2, pt2, hz2⟩ := tup_at ok hb
            first
            | (obtain rfl := dat_non.mp dx; cases rx; simpa [eqD] using SeqAt.EqAt.none_tuple (A := A) (s := s) pt2 hun)
            | (obtain rfl := dat_bl.mp dx; cases rx; simpa [eqD] using SeqAt.EqAt.bool_tuple (A := A) (s := s) _ pt2 hun)
            | (obtain rfl := dat_int.mp dx; obtain ⟨t, rfl⟩ := rx; simpa [eqD] using SeqAt.EqAt.int_tuple (A := A) (s := s) _ t pt2 hun)
            | (obtain rfl := dat_str.mp dx; obtain ⟨t, rfl⟩ := rx; simpa [eqD] using SeqAt.EqAt.str_tuple (A := A) (s := s) _ t pt2 hun)
          | _ =>
            first
            | (simp [plain] at pe; done)
            | exact ih A _ _ x y u v (by omega) (flat _ pd (fun _ z => by cases z)) (flat _ pe (fun _ z => by cases z)) dx dy rx ry)
def scaD : D → D → Bool
  | .non, .non => true | .non, .int _ => true | .int _, .non => true | .non, .bl _ => true | .bl _, .non => true | .non, .str _ => true | .str _, .non => true
  | .int _, .int _ => true | .bl _, .bl _ => true | .str _, .str _ => true
  | _, _ => false
def okEq (d e : D) : Bool := match d, e with
  | .tup ds, .tup es => plain 10 (.tup ds) && plain 10 (.tup es)
  | d, e => scaD d e
def rEqD : R3 := fun d e M Q => okEq d e = true ∧ Q (.bl (eqD d e)) M
def rNeD : R3 := fun d e M Q => okEq d e = true ∧ Q (.bl (!eqD d e)) M
theorem sca_of {K : PySem.W.Frag} {d e : D} {x y : V} (h : scaD d e = true) (dx : Dat K H d x) (dy : Dat K H e y) : scal x y = true ∧ decide (x = y) = eqD d e := by
  cases d <;> cases e <;> first
    | (simp [scaD] at h; done)
    | (simp only [Dat] at dx dy; subst dx; subst dy; refine ⟨rfl, ?_⟩; rw [Bool.eq_iff_iff]; simp [eqD])
theorem parts_eq {P : Program} {w : World} (ok : HOk P w H s.heap) {K : PySem.W.Frag} {A : Around} {ds es : List D} {xs ys : List V} {its its2 : List Value} {n : Nat} (hu : A.units + n < cLine) (pd : ds.all (plain n) = true) (pe : es.all (plain n) = true) (hx : Dats K H ds xs) (hy : Dats K H es ys) (rv : Vals xs its) (rv2 : Vals ys its2) :
    ∀ j (h1 : j < its.toArray.size) (h2 : j < its2.toArray.size), SeqAt.EqAt A s its.toArray[j] its2.toArray[j] (eqD (ds.getD j .non) (es.getD j .non)) := by
  intro j h1 h2
  have hl1 := hx.length.trans rv.length
  have hl2 := hy.length.trans rv2.length
  simp only [List.size_toArray] at h1 h2
  have e1 : ds[j]? = some (ds.getD j .non) := by rw [List.getD_eq_getElem?_getD, List.getElem?_eq_getElem (by omega)]; rfl
  have e2 : es[j]? = some (es.getD j .non) := by rw [List.getD_eq_getElem?_getD, List.getElem?_eq_getElem (by omega)]; rfl
  obtain ⟨x1, g1, g2⟩ := hx.get e1
  obtain ⟨y1, g3, g4⟩ := hy.get e2
  obtain ⟨u1, g5, g6⟩ := rv.get g1
  obtain ⟨v1, g7, g8⟩ := rv2.get g3
  have q1 : its.toArray[j] = u1 := by
    have : its[j] = u1 := Option.some.inj ((List.getElem?_eq_getElem (by omega)).symm.trans g5)
    simpa using this
  have q2 : its2.toArray[j] = v1 := by
    have : its2[j] = v1 := Option.some.inj ((List.getElem?_eq_getElem (by omega)).symm.trans g7)
    simpa using this
  rw [q1, q2]
  exact eqAt_D ok n A _ _ x1 y1 u1 v1 hu (all_get pd e1) (all_get pe e2) g2 g4 g6 g8
theorem o_eq (hu : X.A.units + 64 < cLine) : Op3 X (compareOp .Eq) rEqD := by
  constructor
  intro pins s σ H M x y d e v u Q I rm rx ry dx dy ⟨hk, q⟩
  by_cases ht : ∃ ds es, d = .tup ds ∧ e = .tup es
  · obtain ⟨ds, es, rfl, rfl⟩ := ht
    have hk : (plain 10 (.tup ds) && plain 10 (.tup es)) = true := hk
    rw [Bool.and_eq_true] at hk
    obtain ⟨a, xs, rfl, ha, hx⟩ := dat_tup.mp dx
    obtain ⟨b, ys, rfl, hb, hy⟩ := dat_tup.mp dy
    obtain rfl : v = Value.ref a := rx
    obtain rfl : u = Value.ref b := ry
    obtain ⟨its, rv, pt, hz⟩ := tup_at I.hok ha
    obtain ⟨its2, rv2, pt2, hz2⟩ := tup_at I.hok hb
    have hl1 := hx.length.trans rv.length
    have hl2 := hy.length.trans rv2.length
    refine SeqAt.RcAt.tuples (A := X.A) (s := s) (e := fun j => eqD (ds.getD j .non) (es.getD j .non)) pt pt2 (by omega) (parts_eq I.hok (n := 9) (by show X.A.units + 1 + 9 < cLine; omega) (by simpa [plain] using hk.1) (by simpa [plain] using hk.2) hx hy rv rv2) _ _ _ _ ?_
    refine ⟨.bl _, H, I, rfl, post_self rm (dat_bl.mpr rfl) ?_⟩
    simp only [List.size_toArray, ← hl1, ← hl2]
    rw [eqD_tup, eqDs_all] at q
    exact q
  · have hs : scaD d e = true := by
      unfold okEq at hk
      split at hk
      · exact absurd ⟨_, _, rfl, rfl⟩ ht
      · exact hk
    obtain ⟨h1, h2⟩ := sca_of hs dx dy
    exact op_eq pins s σ H x y v u _ I rx ry ⟨h1, by rw [h2]; exact post_self rm (dat_bl.mpr rfl) q⟩
theorem o_ne (hu : X.A.units + 64 < cLine) : Op3 X (compareOp .NotEq) rNeD := by
  constructor
  intro pins s σ H M x y d e v u Q I rm rx ry dx dy ⟨hk, q⟩
  by_cases ht : ∃ ds es, d = .tup ds ∧ e = .tup es
  · obtain ⟨ds, es, rfl, rfl⟩ := ht
    have hk : (plain 10 (.tup ds) && plain 10 (.tup es)) = true := hk
    rw [Bool.and_eq_true] at hk
    obtain ⟨a, xs, rfl, ha, hx⟩ := dat_tup.mp dx
    obtain ⟨b, ys, rfl, hb, hy⟩ := dat_tup.mp dy
    obtain rfl : v = Value.ref a := rx
    obtain rfl : u = Value.ref b := ry
    obtain ⟨its, rv, pt, hz⟩ := tup_at I.hok ha
    obtain ⟨its2, rv2, pt2, hz2⟩ := tup_at I.hok hb
    have hl1 := hx.length.trans rv.length
    have hl2 := hy.length.trans rv2.length
    refine SeqAt.RcNeAt.tuples (A := X.A) (s := s) (e := fun j => eqD (ds.getD j .non) (es.getD j .non)) pt pt2 (by omega) (parts_eq I.hok (n := 9) (by show X.A.units + 1 + 9 < cLine; omega) (by simpa [plain] using hk.1) (by simpa [plain] using hk.2) hx hy rv rv2) _ _ _ _ ?_
    refine ⟨.bl _, H, I, rfl, post_self rm (dat_bl.mpr rfl) ?_⟩
    simp only [List.size_toArray, ← hl1, ← hl2]
    rw [eqD_tup, eqDs_all] at q
    exact q
  · have hs : scaD d e = true := by
      unfold okEq at hk
      split at hk
      · exact absurd ⟨_, _, rfl, rfl⟩ ht
      · exact hk
    obtain ⟨h1, h2⟩ := sca_of hs dx dy
    exact op_ne pins s σ H x y v u _ I rx ry ⟨h1, by rw [h2]; exact post_self rm (dat_bl.mpr rfl) q⟩
noncomputable def dOf (K : PySem.W.Frag) (H : Hp) (v : V) : D := open Classical in if h : ∃ d, plain 9 d = true ∧ Dat K H d v then h.choose else .non
theorem dOf_eq {K : PySem.W.Frag} {d : D} {v : V} (p : plain 9 d = true) (h : Dat K H d v) : dOf K H v = d := by
  have hx : ∃ d, plain 9 d = true ∧ Dat K H d v := ⟨d, p, h⟩
  unfold dOf
  rw [dif_pos hx]
  exact Dat.inj 9 _ _ v hx.choose_spec.1 p hx.choose_spec.2 h
noncomputable def eOf (K : PySem.W.Frag) (H : Hp) (d : D) (u : Value) : Bool := match absV u with
  | some v => eqD (dOf K H v) d
  | none => false
theorem eOf_eq {K : PySem.W.Frag} {d e : D} {v : V} {u : Value} (p : plain 9 e = true) (h : Dat K H e v) (r : RelV v u) : eOf K H d u = eqD e d := by
  unfold eOf
  rw [r.abs]
  show eqD (dOf K H v) d = _
  rw [dOf_eq p h]
theorem any_eOf {K : PySem.W.Frag} {d : D} : ∀ {es : List D} {xs : List V} {us : List Value}, Dats K H es xs → Vals xs us → es.all (plain 9) = true → us.any (eOf K H d) = es.any fun e => eqD e d
  | [], xs, us, h, r, _ => by rw [dats_nil.mp h] at r; cases r; rfl
  | e :: es, xs, us, h, r, p => by
    obtain ⟨v, vs, rfl, h1, h2⟩ := dats_cons.mp h
    cases r with
    | cons r rr =>
      rw [List.all_cons, Bool.and_eq_true] at p
      rw [List.any_cons, List.any_cons, eOf_eq p.1 h1 r, any_eOf h2 rr p.2]
theorem mem_eOf {P : Program} {w : World} (ok : HOk P w H s.heap) {K : PySem.W.Frag} {A : Around} {d : D} {x : V} {v : Value} (hu : A.units + 9 < cLine) (pd : plain 9 d = true) (dx : Dat K H d x) (rx : RelV x v) :
    ∀ {es : List D} {xs : List V} {us : List Value}, Dats K H es xs → Vals xs us → es.all (plain 9) = true → ∀ u ∈ us, SeqAt.EqAt A s u v (eOf K H d u)
  | [], xs, us, h, r, _, u, hm => by rw [dats_nil.mp h] at r; cases r; cases hm
  | e :: es, xs, us, h, r, p, u, hm => by
    obtain ⟨y, ys, rfl, h1, h2⟩ := dats_cons.mp h
    cases r with
    | cons r rr =>
      rw [List.all_cons, Bool.and_eq_true] at p
      rcases List.mem_cons.mp hm with rfl | hm
      · rw [eOf_eq p.1 h1 r]
        exact eqAt_D ok 9 A _ _ _ _ _ _ hu p.1 pd h1 dx r rx
      · exact mem_eOf ok hu pd dx rx h2 rr p.2 u hm
def inD (d : D) (es : List D) : Bool := es.any fun e => eqD e d
def Seq3 (M : Mp) (e : D) (es : List D) : Prop := e = .tup es ∨ ∃ a, e = .ref a ∧ M a = some (.lst es)
def rInD (neg : Bool) : R3 := fun d e M Q => ∃ es, Seq3 M e es ∧ plain 9 d = true ∧ es.all (plain 9) = true ∧ Q (.bl (if neg then !inD d es else inD d es)) M
theorem o_in (hu : X.A.units + 64 < cLine) : Op3 X (compareOp .In) (rInD false) := by
  constructor
  intro pins s σ H M x y d e v u Q I rm rx ry dx dy ⟨es, hs, pd, pe, q⟩
  rcases hs with rfl | ⟨a, rfl, hM⟩
  · obtain ⟨b, ys, rfl, hb, hy⟩ := dat_tup.mp dy
    obtain rfl : u = Value.ref b := ry
    obtain ⟨its, rv, pt, hz⟩ := tup_at I.hok hb
    refine SeqAt.in_tupleAt (eOf X.K H d) pt (fun w hw => mem_eOf I.hok (by show X.A.units + 1 + 9 < cLine; omega) pd dx rx hy rv pe w (by simpa using hw)) ⟨.bl _, H, I, rfl, post_self rm (dat_bl.mpr rfl) ?_⟩
    rw [show its.toArray.any (eOf X.K H d) = its.any (eOf X.K H d) by simp, any_eOf hy rv pe]
    exact q
  · obtain rfl := dat_ref.mp dy
    obtain rfl : u = Value.ref a := ry
    obtain ⟨ys, hb, hy⟩ := rm.lst hM
    obtain ⟨its, rv, pl, hz⟩ := I.list (SqL.of hb)
    refine SeqAt.in_listAt (eOf X.K H d) pl.isList (fun w hw => mem_eOf I.hok (by show X.A.units + 1 + 9 < cLine; omega) pd dx rx hy rv pe w (by simpa using hw)) ⟨.bl _, H, I, rfl, post_self rm (dat_bl.mpr rfl) ?_⟩
    rw [show its.toArray.any (eOf X.K H d) = its.any (eOf X.K H d) by simp, any_eOf hy rv pe]
    exact q
theorem ints_dats {K : PySem.W.Frag} : ∀ {ns : List Int} {xs : List V}, Dats K H (ns.map D.int) xs → xs = ns.map V.int
  | [], xs, h => dats_nil.mp h
  | n :: ns, xs, h => by
    obtain ⟨v, vs, rfl, h1, h2⟩ := dats_cons.mp h
    rw [dat_int.mp h1, ints_dats h2]; rfl
def rLtT : R3 := fun d e M Q => ∃ ns ms : List Int, d = .tup (ns.map D.int) ∧ e = .tup (ms.map D.int) ∧ Q (.bl (HT.lexLt ns ms)) M
theorem o_ltT (hu : X.A.units + 64 < cLine) : Op3 X (compareOp .Lt) rLtT := by
  constructor
  intro pins s σ H M x y d e v u Q I rm rx ry dx dy ⟨ns, ms, e1, e2, q⟩
  subst e1; subst e2
  obtain ⟨a, xs, rfl, ha, hx⟩ := dat_tup.mp dx
  obtain ⟨b, ys, rfl, hb, hy⟩ := dat_tup.mp dy
  obtain rfl : v = Value.ref a := rx
  obtain rfl : u = Value.ref b := ry
  obtain ⟨its, rv, pt, hz⟩ := tup_at I.hok ha
  obtain ⟨its2, rv2, pt2, hz2⟩ := tup_at I.hok hb
  rw [ints_dats hx] at rv
  rw [ints_dats hy] at rv2
  exact HT.lt_tupInts pt pt2 (by simpa using intsAre_of rv) (by simpa using intsAre_of rv2) (by omega) ⟨.bl _, H, I, rfl, post_self rm (dat_bl.mpr rfl) q⟩
end
end L3
namespace L3
open PySem PySem.Spec PyProof.Rows L2
section
variable {X : Cx} {a b c e : Expr} {es : List Expr} {ta tb tc te : TE3} {t : TA3} {pos p : Pos}
def tNil3 : TA3 := fun _ M Q => Q [] M
def tCons3 (ta : TE3) (tr : TA3) : TA3 := fun ρ M Q => ta ρ M fun x M1 => tr ρ M1 fun xs M2 => Q (x :: xs) M2
theorem a_nil : PA3 X [] tNil3 := ⟨fun pos pins s σ H ρ M Q I r h => pa_nil pos pins s σ H _ I ⟨[], M, .refl _ _, dats_nil.mpr rfl, r.mem, h⟩⟩
theorem a_cons (ha : PE3 X e te) (hr : PA3 X es t) (hs : starEach (e :: es) X.env = (false, eval e X.env) :: starEach es X.env := by rfl) : PA3 X (e :: es) (tCons3 te t) := ⟨fun pos pins s σ H ρ M Q I r h =>
  pa_cons ha.dn hr.dn hs pos pins s σ H _ I (dn_of r h fun v H' d M' f dv r' q => dnA_of r' q fun vs H2 ds M2 f2 dvs r2 q2 =>
    ⟨d :: ds, M2, f.trans f2, dats_cons.mpr ⟨v, vs, rfl, Dat.mono (f2.ext r'.mem) _ _ dv, dvs⟩, r2.mem, q2⟩)⟩
def tTup3 (t : TA3) : TE3 := fun ρ M Q => t ρ M fun xs M1 => xs.length ≤ sizeLine ∧ Q (.tup xs) M1
def tLst3 (t : TA3) : TE3 := fun ρ M Q => t ρ M fun xs M1 => xs.length ≤ sizeLine ∧ ∀ p, M1 p = none → Q (.ref p) (updM M1 p (.lst xs))
theorem q_tup {x1} (h : PA3 X es t) : PE3 X (.Tuple es x1 pos) (tTup3 t) := up (pe_tup h.dn) fun σ H ρ M Q r q => dnA_of r q fun vs H' ds M' f dv r' ⟨hl, q⟩ =>
  ⟨by rw [← dv.length]; exact hl, fun p hp => ⟨.tup ds, M', f.trans (Fr.new hp fun _ _ => rfl), dat_tup.mpr ⟨p, vs, rfl, upd_same, Dats.mono (Ext.new hp) _ _ dv⟩, r'.mem.new hp, q⟩⟩
theorem q_lst (h : PA3 X es t) : PE3 X (.List es pos) (tLst3 t) := up (pe_lst h.dn) fun σ H ρ M Q r q => dnA_of r q fun vs H' ds M' f dv r' ⟨hl, q⟩ =>
  ⟨by rw [← dv.length]; exact hl, fun p hp => ⟨.ref p, updM M' p (.lst ds), f.trans (Fr.new hp fun _ hb => updM_ne hb), dat_ref.mpr rfl, r'.mem.newL hp dv, q p (r'.mem.free hp)⟩⟩
def Seq4 (M : Mp) (e : D) (es : List D) : Prop := e = .tup es ∨ e = .frl es ∨ ∃ a, e = .ref a ∧ M a = some (.lst es)
def rIx3 : R3 := fun d e M Q => ∃ xs i z, Seq4 M d xs ∧ e = .int i ∧ atI xs i = some z ∧ Q z M
theorem ixN_of {α β : Type} {xs : List α} {ys : List β} (h : xs.length = ys.length) {i : Int} {z : α} (e : atI xs i = some z) : ∃ j, ixN ys.length i = some j ∧ xs[j]? = some z := by
  unfold atI at e
  rw [h] at e
  cases q : ixN ys.length i with
  | none => rw [q] at e; cases e
  | some j => rw [q] at e; exact ⟨j, rfl, e⟩
theorem atI_dats {K : PySem.W.Frag} {H : Hp} {ds : List D} {xs : List V} (h : Dats K H ds xs) {i : Int} {z : D} (e : atI ds i = some z) : ∃ v, atI xs i = some v ∧ Dat K H z v := by
  obtain ⟨j, h1, h2⟩ := ixN_of h.length e
  obtain ⟨v, h3, h4⟩ := h.get h2
  refine ⟨v, ?_, h4⟩
  unfold atI
  rw [h1]
  exact h3
theorem q_ix (ha : PE3 X a ta) (hb : PE3 X b tb) (hs : PlainIx b := by intro _ _; rfl) : PE3 X (.Subscript a b pos) (tBin rIx3 ta tb) := up (pe_ix (ix_list.or ix_tup) ha.dn hb.dn hs) fun σ H ρ M Q r q =>
  dn_of r q fun v H' d M' f dv r' q => dn_of r' q fun u H2 e M2 f2 du r2 ⟨xs, i, z, hq, ei, at', q⟩ => by
    subst ei
    obtain rfl := dat_int.mp du
    have dv2 := Dat.mono (f2.ext r'.mem) _ _ dv
    have fin : ∀ w, Dat X.K H2 z w → Post X.K M H Q w H2 := fun w dw => ⟨z, M2, f.trans f2, dw, r2.mem, q⟩
    rcases hq with rfl | rfl | ⟨l, rfl, hl⟩
    · obtain ⟨p, ys, rfl, hp, hy⟩ := dat_tup.mp dv2
      obtain ⟨w, h1, h2⟩ := atI_dats hy at'
      exact .inr ⟨p, ys, i, w, rfl, rfl, SqT.of hp, h1, fin w h2⟩
    · obtain ⟨p, ys, rfl, hp, hy⟩ := dat_frl.mp dv2
      obtain ⟨w, h1, h2⟩ := atI_dats hy at'
      exact .inl ⟨p, ys, i, w, rfl, rfl, hp.sq, h1, fin w h2⟩
    · obtain rfl := dat_ref.mp dv2
      obtain ⟨ys, hp, hy⟩ := r2.mem.lst hl
      obtain ⟨w, h1, h2⟩ := atI_dats hy at'
      exact .inl ⟨l, ys, i, w, rfl, rfl, SqL.of hp, h1, fin w h2⟩
structure Call3 (X : Cx) (f : Value) (t : List D → Mp → DK → Prop) : Prop where
  run : ∀ (pins : List (Addr × Obj)) (s : Shared) (σ : St) (H : Hp) (M : Mp) (xs : List V) (ds : List D) (us : List Value) (Q : DK), Inv X pins σ H s → RepM X.K H M → Vals xs us → Dats X.K H ds xs → t ds M Q →
    wpAny (model X.prog X.w) X.A (call f us) (EP X pins σ (Post X.K M H Q)) X.xe s
theorem call3 {f : Value} {r : List V → Hp → VK → Prop} {t : List D → Mp → DK → Prop} (h : CallR X f r) (g : ∀ H M xs ds Q, RepM X.K H M → Dats X.K H ds xs → t ds M Q → r xs H (Post X.K M H Q)) : Call3 X f t :=
  ⟨fun pins s σ H M xs ds us Q I rm rs dx q => h pins s σ H xs us _ I rs (g H M xs ds Q rm dx q)⟩
def tCB3 (r : List D → Mp → DK → Prop) (t : TA3) : TE3 := fun ρ M Q => t ρ M fun ds M1 => r ds M1 Q
variable {x : Str} {id T : String} {r : List D → Mp → DK → Prop}
theorem q_blt (hc : Call3 X (.builtin id) r) (hg : Gl X x) (hm : X.mg x = none) (hv : bootBuiltins x = some (.builtin id)) (ha : PA3 X (e :: es) t) (hn : x ≠ "__name__" := by decide) (hdb : (x == ("__debug__" : Str)) = false := by decide)
    (he : starEach (e :: es) X.env = (false, eval e X.env) :: starEach es X.env := by rfl) (hpl : (backTo pos (starEach es X.env)).any (·.1) = false := by rfl) : PE3 X (.Call (.Name x p) (e :: es) [] pos) (tCB3 r t) := by
  constructor
  intro pins s σ H ρ M Q I r h
  refine wpAny_Call_Name_kw (ld_blt I hg hm hv ?_ hn hdb)
  refine PyProof.Rows.callWith_builtin1 (thn (ha.run pos pins s σ H ρ M _ I r h) fun us s1 ⟨vs, H1, I1, r1, ds, M1, f1, d1, rm1, q1⟩ => ?_) he hpl
  exact thn (hc.run pins s1 σ H1 M1 vs ds us Q I1 rm1 r1 d1 q1) fun _ _ ⟨z, H3, I3, r3, p⟩ => ⟨z, H3, I3, r3, p.back f1⟩
theorem q_typ (hc : Call3 X (.type T) r) (hg : Gl X x) (hm : X.mg x = none) (hv : bootBuiltins x = some (.type T)) (ha : PA3 X (e :: es) t) (hn : x ≠ "__name__" := by decide) (hdb : (x == ("__debug__" : Str)) = false := by decide)
    (he : starEach (e :: es) X.env = (false, eval e X.env) :: starEach es X.env := by rfl) (hpl : (backTo pos (starEach es X.env)).any (·.1) = false := by rfl) : PE3 X (.Call (.Name x p) (e :: es) [] pos) (tCB3 r t) := by
  constructor
  intro pins s σ H ρ M Q I r h
  refine wpAny_Call_Name_kw (ld_blt I hg hm hv ?_ hn hdb)
  refine PyProof.Rows.callWith_type1 (thn (ha.run pos pins s σ H ρ M _ I r h) fun us s1 ⟨vs, H1, I1, r1, ds, M1, f1, d1, rm1, q1⟩ => ?_) he hpl
  exact thn (hc.run pins s1 σ H1 M1 vs ds us Q I1 rm1 r1 d1 q1) fun _ _ ⟨z, H3, I3, r3, p⟩ => ⟨z, H3, I3, r3, p.back f1⟩
theorem dats1 {K : PySem.W.Frag} {H : Hp} {d : D} {xs : List V} (h : Dats K H [d] xs) : ∃ v, xs = [v] ∧ Dat K H d v := by
  obtain ⟨v, vs, rfl, h1, h2⟩ := dats_cons.mp h
  rw [dats_nil.mp h2]
  exact ⟨v, rfl, h1⟩
theorem dats2 {K : PySem.W.Frag} {H : Hp} {d e : D} {xs : List V} (h : Dats K H [d, e] xs) : ∃ v u, xs = [v, u] ∧ Dat K H d v ∧ Dat K H e u := by
  obtain ⟨v, vs, rfl, h1, h2⟩ := dats_cons.mp h
  obtain ⟨u, rfl, h3⟩ := dats1 h2
  exact ⟨v, u, rfl, h1, h3⟩
def rAbs : List D → Mp → DK → Prop := fun ds M Q => ∃ i : Int, ds = [.int i] ∧ Q (.int (i.natAbs : Int)) M
theorem c_abs : Call3 X (.builtin "abs") rAbs := call3 call_abs fun H M xs ds Q rm dx ⟨i, ei, q⟩ => by
  subst ei
  obtain ⟨v, rfl, hv⟩ := dats1 dx
  obtain rfl := dat_int.mp hv
  refine ⟨i, rfl, post_self rm (dat_int.mpr rfl) ?_⟩
  have e : (if i < 0 then -i else i) = (i.natAbs : Int) := by split <;> omega
  rw [e]
  exact q
def rLen : List D → Mp → DK → Prop := fun ds M Q => ∃ d xs, ds = [d] ∧ Seq4 M d xs ∧ Q (.int xs.length) M
theorem c_len : Call3 X (.builtin "len") rLen := call3 call_len_seq fun H M xs ds Q rm dx ⟨d, ys, ei, hs, q⟩ => by
  subst ei
  obtain ⟨v, rfl, hv⟩ := dats1 dx
  rcases hs with rfl | rfl | ⟨l, rfl, hl⟩
  · obtain ⟨p, zs, rfl, hp, hz⟩ := dat_tup.mp hv
    exact ⟨p, zs, rfl, .inr (SqT.of hp), post_self rm (dat_int.mpr (by rw [hz.length])) q⟩
  · obtain ⟨p, zs, rfl, hp, hz⟩ := dat_frl.mp hv
    exact ⟨p, zs, rfl, .inl hp.sq, post_self rm (dat_int.mpr (by rw [hz.length])) q⟩
  · obtain rfl := dat_ref.mp hv
    obtain ⟨zs, hp, hz⟩ := rm.lst hl
    exact ⟨l, zs, rfl, .inl (SqL.of hp), post_self rm (dat_int.mpr (by rw [hz.length])) q⟩
def rMin2 : List D → Mp → DK → Prop := fun ds M Q => ∃ i j : Int, ds = [.int i, .int j] ∧ Q (.int (min i j)) M
theorem c_min2 (hc : X.calm = true) : Call3 X (.builtin "min") rMin2 := call3 (call_min2 hc) fun H M xs ds Q rm dx ⟨i, j, ei, q⟩ => by
  subst ei
  obtain ⟨v, u, rfl, hv, hu⟩ := dats2 dx
  obtain rfl := dat_int.mp hv
  obtain rfl := dat_int.mp hu
  refine ⟨i, j, rfl, post_self rm (dat_int.mpr rfl) ?_⟩
  have e : (if j < i then j else i) = min i j := by split <;> omega
  rw [e]
  exact q
inductive Ty3 (M : Mp) : D → String → Prop where
  | non : Ty3 M .non "NoneType"
  | bl (b : Bool) : Ty3 M (.bl b) "bool"
  | int (i : Int) : Ty3 M (.int i) "int"
  | str (x : Str) : Ty3 M (.str x) "str"
  | tup (ds : List D) : Ty3 M (.tup ds) "tuple"
  | lst {a : Addr} {ds : List D} (h : M a = some (.lst ds)) : Ty3 M (.ref a) "list"
  | dct : Ty3 M (.thg "dict") "dict"
def rIsT (K : PySem.W.Frag) : List D → Mp → DK → Prop := fun ds M Q => ∃ d n m b, ds = [d, .ty m] ∧ Ty3 M d n ∧ PySem.W.kitOne K (.type n) (.type m) = some b ∧ Q (.bl b) M
theorem c_isT : Call3 X (.builtin "isinstance") (rIsT X.K) := by
  constructor
  intro pins s σ H M xs ds us Q I rm rs dx ⟨d, n, m, b, ei, ty, hk, q⟩
  subst ei
  obtain ⟨v, u, rfl, hv, hu⟩ := dats2 dx
  obtain rfl := dat_ty.mp hu
  obtain ⟨v', u', rfl, r1, r2⟩ := vals2 rs
  obtain rfl : u' = Value.type m := r2
  have fin : ∀ tk, EP X pins σ (Post X.K M H Q) (.bool b) { s with toks := tk } := fun tk => ⟨.bl b, H, I.tok tk, rfl, post_self rm (dat_bl.mpr rfl) q⟩
  cases ty with
  | non => obtain rfl := dat_non.mp hv; exact isinst_ok I r1 .non hk fin
  | bl k => obtain rfl := dat_bl.mp hv; exact isinst_ok I r1 (.bl k) hk fin
  | int i => obtain rfl := dat_int.mp hv; exact isinst_ok I r1 (.int i) hk fin
  | str z => obtain rfl := dat_str.mp hv; exact isinst_ok I r1 (.str z) hk fin
  | tup zs =>
    obtain ⟨p, ys, rfl, hp, hy⟩ := dat_tup.mp hv
    exact isinst_ok I r1 (.tup hp) hk fin
  | lst hM =>
    obtain rfl := dat_ref.mp hv
    obtain ⟨ys, hp, hy⟩ := rm.lst hM
    exact isinst_ok I r1 (.lst hp) hk fin
  | dct =>
    obtain ⟨p, o, u, rfl, hp, hc⟩ := dat_thg.mp hv
    cases (show v' = Value.ref p from r1)
    obtain ⟨h1, _⟩ := (show ObjOk X.prog X.w H s.heap p (.frz o u) from I.hok p _ hp)
    exact PySem.W.kia_one PySem.W.kitx_dict I.kIn ⟨o, h1, hc⟩ hk (fun z => nomatch z) fin
abbrev SpP := List D → (D → Prop) → Prop
def spP (K : PySem.W.Frag) (S : SpP) : Sp := fun vs H Q _ => ∃ ds Q0, Dats K H ds vs ∧ S ds Q0 ∧ ∀ d v H', Q0 d → Dat K H' d v → (∀ b o, H b = some o → H' b = some o) → Q v H'
theorem dats_app_nil {K : PySem.W.Frag} {H : Hp} {ds : List D} {vs : List V} (h : Dats K H ds vs) : Dats K H ds (vs ++ []) := by simpa using h
theorem Ext.keep {H H' : Hp} (h : ∀ b o, H b = some o → H' b = some o) : Ext H H' := ⟨fun b _ e => h b _ e, fun b _ _ e => h b _ e⟩
theorem RepM.keep {K : PySem.W.Frag} {H H' : Hp} {M : Mp} (r : RepM K H M) (h : ∀ b o, H b = some o → H' b = some o) : RepM K H' M := fun a o e => by
  cases o with
  | lst ds =>
    obtain ⟨xs, e1, e2⟩ := r.lst e
    exact ⟨xs, h _ _ e1, Dats.mono (Ext.keep h) _ _ e2⟩
variable {k : Nat} {f : Addr} {fd : FuncData} {ps : List Str}
def tCallP (S : SpP) (t : TA3) : TE3 := fun ρ M Q => t ρ M fun ds M1 => S ds fun d => Q d M1
theorem q_callP {S : SpP} (F : FnOk X.prog X.w X.K X.mg X.base CX0 k f fd ps (spP X.K S)) (hr : Room k X.A) (hg : Gl X x) (hm : X.mg x = some (.ref f)) (hk : PySem.W.keepIn X.K (.ref f) = true) (hb : Binds X.K fd ps [])
    (ha : PA3 X (e :: es) t) (hdb : (x == ("__debug__" : Str)) = false := by decide) (he : starEach (e :: es) X.env = (false, eval e X.env) :: starEach es X.env := by rfl) (hpl : (backTo pos (starEach es X.env)).any (·.1) = false := by rfl) :
    PE3 X (.Call (.Name x p) (e :: es) [] pos) (tCallP S t) :=
  up (pe_call (dvs := []) (E := E0) F hr hg hm hk hb .nil pass0 ha.dn hdb he hpl) fun σ H ρ M Q r q => dnA_of r q fun vs H' ds M' f dv r' q =>
    ⟨ds, _, dats_app_nil dv, q, fun d v H2 q2 d2 kp => ⟨d, M', f.trans fun b o n e => ⟨kp b o e, n⟩, d2, r'.mem.keep kp, q2⟩⟩
end
section
variable {X : Cx} {st : Stmt} {rest : List Stmt} {t u : TS3} {e : Expr} {te : TE3} {pos : Pos}
def tNext3 : TS3 := fun D ρ M => D.nx ρ M
def tSeq3 (t u : TS3) : TS3 := fun D ρ M => t { D with nx := u D } ρ M
theorem ends_back {K : PySem.W.Frag} {M M1 : Mp} {H H1 : Hp} {D : En3} {pins : List (Addr × Obj)} {f : Flow} {s : Shared} (fr : Fr M H M1 H1) (h : SP X pins (ends K M1 H1 D) f s) : SP X pins (ends K M H D) f s := by
  cases f with
  | next => obtain ⟨σ', H', I, p⟩ := h; exact ⟨σ', H', I, PostN.back fr p⟩
  | brk => obtain ⟨σ', H', I, p⟩ := h; exact ⟨σ', H', I, PostN.back fr p⟩
  | cont => obtain ⟨σ', H', I, p⟩ := h; exact ⟨σ', H', I, PostN.back fr p⟩
  | ret w => obtain ⟨v, σ', H', I, rv, p⟩ := h; exact ⟨v, σ', H', I, rv, Post.back fr p⟩
theorem PS3.dn {st : Stmt} {t : TS3} (h : PS3 X st t) : PS X st (dnS X.K t) := fun pins s σ H D' I ⟨ρ, M, D, r, q, k1, k2, k3, k4⟩ =>
  thn (h.run pins s σ H ρ M D I r q) fun f s' z => by
    cases f with
    | next => obtain ⟨σ', H', I', p⟩ := z; exact ⟨σ', H', I', k1 _ _ p⟩
    | brk => obtain ⟨σ', H', I', p⟩ := z; exact ⟨σ', H', I', k3 _ _ p⟩
    | cont => obtain ⟨σ', H', I', p⟩ := z; exact ⟨σ', H', I', k4 _ _ p⟩
    | ret u => obtain ⟨v, σ', H', I', rv, p⟩ := z; exact ⟨v, σ', H', I', rv, k2 _ _ p⟩
theorem upSs {sts : List Stmt} {te : TS} {t : TS3} (h : PSs X sts te) (g : ∀ σ H ρ M D, Rep X.K H σ ρ M → t D ρ M → te (ends X.K M H D) σ H) : PSs3 X sts t :=
  ⟨fun pins s σ H ρ M D I r q => h pins s σ H _ I (g σ H ρ M D r q)⟩
theorem dnS_self {K : PySem.W.Frag} {M0 : Mp} {H0 : Hp} {σ : St} {H : Hp} {ρ : En} {M : Mp} {D : En3} {t : TS3} (f : Fr M0 H0 M H) (r : Rep K H σ ρ M) (q : t D ρ M) : dnS K t (ends K M0 H0 D) σ H :=
  ⟨ρ, M, D, r, q, fun _ _ p => p.back f, fun _ _ p => p.back f, fun _ _ p => p.back f, fun _ _ p => p.back f⟩
theorem b_nil : PSs3 X [] tNext3 := upSs pss_nil fun σ H ρ M D r q => ⟨ρ, M, .refl _ _, r, q⟩
theorem b_cons (h1 : PS3 X st t) (h2 : PSs3 X rest u) : PSs3 X (st :: rest) (tSeq3 t u) := upSs (pss_cons h1.dn h2.dn) fun σ H ρ M D r q =>
  ⟨ρ, M, _, r, q, fun σ' H' ⟨ρ', M', f, r', q'⟩ => dnS_self f r' q', fun _ _ p => p, fun _ _ p => p, fun _ _ p => p⟩
theorem b_one (h1 : PS3 X st t) : PSs3 X [st] t := upSs (pss_one h1.dn) fun σ H ρ M D r q => dnS_self (.refl _ _) r q
def tRet3 (te : TE3) : TS3 := fun D ρ M => te ρ M D.rt
theorem s_ret (he : PE3 X e te) : PS3 X (.Return (some e) pos) (tRet3 te) := upS (ps_ret he.dn) fun σ H ρ M D r q => ⟨ρ, M, _, r, q, fun _ _ p => p⟩
def tIfS3 (c : TT3) (t u : TS3) : TS3 := fun D ρ M => c ρ M fun b M1 => if b = true then t D ρ M1 else u D ρ M1
theorem s_if {c : Expr} {a b : List Stmt} {tc : TT3} (hc : PT3 X c tc) (ha : PSs3 X a t) (hb : PSs3 X b u) : PS3 X (.If c a b pos) (tIfS3 tc t u) := upS (ps_if hc.dn ha.dn hb.dn) fun σ H ρ M D r q => dnT_of r q fun k H' M' f r' q => by
  cases k with
  | true => exact dnS_self f r' q
  | false => exact dnS_self f r' q
def tNever3 : TS3 := fun _ _ _ => False
theorem s_never : PS3 X st tNever3 := ⟨fun _ _ _ _ _ _ _ _ _ h => h.elim⟩
def tSet3 (i : Nat) (te : TE3) : TS3 := fun D ρ M => te ρ M fun x M1 => D.nx (ρ.set i (some x)) M1
theorem s_set {i : Nat} {x : Str} {pos' : Pos} (hN : X.N.Nodup) (hi : X.N[i]? = some x) (hx : Loc X.env.scope x) (he : PE3 X e te) (hs : swapsWith e (some (.Name x pos')) pos.line X.env = pure false := by rfl) (hf : X.fn x = true ∨ X.env.scope.names.lookup x = some .local := by first | exact .inl rfl | exact .inr rfl | assumption) :
    PS3 X (.Assign [.Name x pos'] e pos) (tSet3 i te) := upS (ps_set hN hi hx he.dn hs hf) fun σ H ρ M D r q => dn_of r q fun v H' d M' f dv r' q => ⟨ρ.set i (some d), M', f, r'.set dv, q⟩
abbrev TG3 := D → En → Mp → (En → Mp → Prop) → Prop
abbrev TGs3 := List D → En → Mp → (En → Mp → Prop) → Prop
structure PG3 (X : Cx) (target : Expr) (t : TG3) : Prop where
  run : ∀ (pins : List (Addr × Obj)) (s : Shared) (σ : St) (H : Hp) (ρ : En) (M : Mp) (v : V) (d : D) (u : Value) (Q : En → Mp → Prop), Inv X pins σ H s → Rep X.K H σ ρ M → RelV v u → Dat X.K H d v → t d ρ M Q →
    wpAny (model X.prog X.w) X.A (assign target X.env u) (fun _ s' => ∃ σ' H', Inv X pins σ' H' s' ∧ PostN X.K M H Q σ' H') X.xe s
structure PGs3 (X : Cx) (ts : List Expr) (t : TGs3) : Prop where
  run : ∀ (pins : List (Addr × Obj)) (s : Shared) (σ : St) (H : Hp) (ρ : En) (M : Mp) (vs : List V) (ds : List D) (us : List Value) (Q : En → Mp → Prop), Inv X pins σ H s → Rep X.K H σ ρ M → Vals vs us → Dats X.K H ds vs → t ds ρ M Q →
    wpAny (model X.prog X.w) X.A (assignInOrder ((assignEach ts X.env).map (·.2)) us) (fun _ s' => ∃ σ' H', Inv X pins σ' H' s' ∧ PostN X.K M H Q σ' H') X.xe s
def gName3 (i : Nat) : TG3 := fun d ρ M Q => Q (ρ.set i (some d)) M
theorem g_name {i : Nat} {x : Str} (hN : X.N.Nodup) (hi : X.N[i]? = some x) (hx : Loc X.env.scope x) (hf : X.fn x = true ∨ X.env.scope.names.lookup x = some .local := by first | exact .inl rfl | exact .inr rfl | assumption) : PG3 X (.Name x pos) (gName3 i) :=
  ⟨fun pins s σ H ρ M v d u Q I r rv dv q => pg_name hN hi hx hf pins s σ H v u _ I rv ⟨ρ.set i (some d), M, .refl _ _, r.set dv, q⟩⟩
def tPar3 (i j : Nat) (ta : TA3) : TS3 := fun D ρ M => ta ρ M fun vs M1 => ∃ v w, vs = [v, w] ∧ D.nx ((ρ.set i (some v)).set j (some w)) M1
theorem s_par {i j : Nat} {x y : Str} {a b : Expr} {ta : TA3} {px py pt : Pos} {kt k2 pt2} (hc : X.calm = true) (hN : X.N.Nodup) (hi : X.N[i]? = some x) (hj : X.N[j]? = some y) (hij : i ≠ j)
    (hx : X.env.scope.names.lookup x = some .local) (hy : X.env.scope.names.lookup y = some .local) (ha : PA3 X [a, b] ta)
    (hw : swappedStores [.Tuple [.Name x px, .Name y py] kt pt] (.Tuple [a, b] k2 pt2) X.env = pure (some [x, y]) := by rfl)
    (hs : swapsWithSole [.Tuple [.Name x px, .Name y py] kt pt] (.Tuple [a, b] k2 pt2) pos.line X.env = pure false := by rfl) :
    PS3 X (.Assign [.Tuple [.Name x px, .Name y py] kt pt] (.Tuple [a, b] k2 pt2) pos) (tPar3 i j ta) := upS (ps_par hc hN hi hj hij hx hy ha.dn hw hs) fun σ H ρ M D r q => dnA_of r q fun vs H' ds M' f dv r' ⟨d1, d2, e1, q⟩ => by
  subst e1
  obtain ⟨v, w, rfl, h1, h2⟩ := dats2 dv
  exact ⟨v, w, rfl, _, M', f, (r'.set h1).set h2, q⟩
variable {o : Expr} {to : TE3} {es : List Expr} {t3 : TA3} {apos : Pos}
@[irreducible] def Hold (p : Prop) : Prop := p
theorem Hold.mk {p : Prop} (h : p) : Hold p := by unfold Hold; exact h
theorem Hold.out {p : Prop} (h : Hold p) : p := by unfold Hold at h; exact h
def tWhile3 (c : TT3) (tb : TS3) : TS3 := fun D ρ M => ∃ W : Nat → En → Mp → Prop, (∃ m, W m ρ M) ∧ ∀ m ρ M, W m ρ M →
  c ρ M fun b M1 => if b = true then tb { D with nx := fun ρ' M' => Hold (∃ m', m' < m ∧ W m' ρ' M'), ct := fun ρ' M' => Hold (∃ m', m' < m ∧ W m' ρ' M'), bk := D.nx } ρ M1 else D.nx ρ M1
theorem s_while {c : Expr} {body : List Stmt} {tc : TT3} {tb : TS3} (hp : PassesOwn (model X.prog X.w) X.A X.env X.xe) (hc : PT3 X c tc) (hb : PSs3 X body tb) : PS3 X (.While c body [] pos) (tWhile3 tc tb) := upS (ps_while hp hc.dn hb.dn) fun σ H ρ M D r ⟨W, ⟨m0, w0⟩, turn⟩ => by
  refine ⟨fun m σ' H' => ∃ ρ' M', Fr M H M' H' ∧ Rep X.K H' σ' ρ' M' ∧ W m ρ' M', ⟨m0, ρ, M, .refl _ _, r, w0⟩, ?_⟩
  rintro m σ1 H1 ⟨ρ1, M1, f1, r1, w1⟩
  refine dnT_of r1 (turn m ρ1 M1 w1) fun k H2 M2 f2 r2 q => ?_
  cases k with
  | true =>
    refine ⟨fun σ' H' => ∃ m', m' < m ∧ ∃ ρ' M', Fr M H M' H' ∧ Rep X.K H' σ' ρ' M' ∧ W m' ρ' M', fun σ' H' z => z, ?_⟩
    have f12 := f1.trans f2
    refine ⟨ρ1, M2, _, r2, q, fun σ' H' ⟨ρ', M', f, r', z⟩ => let ⟨m', hm, w'⟩ := z.out; ⟨m', hm, ρ', M', f12.trans f, r', w'⟩, fun _ _ p => p.back f12, fun _ _ p => p.back f12, fun σ' H' ⟨ρ', M', f, r', z⟩ => let ⟨m', hm, w'⟩ := z.out; ⟨m', hm, ρ', M', f12.trans f, r', w'⟩⟩
  | false => exact ⟨ρ1, M2, f1.trans f2, r2, q⟩
def runFor (gd : Mp → Prop) (g : TG3) (tb : TS3) (D : En3) : List L3.D → En → Mp → Prop
  | [], ρ, M => gd M ∧ D.nx ρ M
  | x :: xs, ρ, M => gd M ∧ g x ρ M fun ρ2 M2 => tb { D with nx := runFor gd g tb D xs, ct := runFor gd g tb D xs, bk := D.nx } ρ2 M2
structure ItIs (K : PySem.W.Frag) (J : It) (inv : Hp → Prop) (ds : List L3.D) : Prop where
  go : ∀ i H, i < ds.length → inv H → J.go i H
  yld : ∀ i H x H', i < ds.length → inv H → J.yld i H x H' → H' = H ∧ ∃ d, ds[i]? = some d ∧ Dat K H d x
  stop : ∀ H, inv H → J.stop ds.length H
theorem PG3.dn {tg : Expr} {g : TG3} (h : PG3 X tg g) : PG X tg (fun v σ H Q => ∃ ρ M d Q0, Rep X.K H σ ρ M ∧ Dat X.K H d v ∧ g d ρ M Q0 ∧ ∀ σ' H', PostN X.K M H Q0 σ' H' → Q σ' H') :=
  fun pins s σ H v u Q I rv ⟨ρ, M, d, Q0, r, dv, q, k⟩ => thn (h.run pins s σ H ρ M v d u Q0 I r rv dv q) fun _ _ ⟨σ', H', I', p⟩ => ⟨σ', H', I', k _ _ p⟩
theorem for_core {K : PySem.W.Frag} {J : It} {inv : Hp → Prop} {ds : List L3.D} {gd : Mp → Prop} {g : TG3} {tb : TS3} {D : En3} {σ : St} {H H0 : Hp} {ρ : En} {M M0 : Mp} (hJ : ItIs K J inv ds)
    (f0 : Fr M0 H0 M H) (r : Rep K H σ ρ M)
    (stay : ∀ M1 H1, Fr M H M1 H1 → RepM K H1 M1 → gd M1 → inv H1) (q : runFor gd g tb D ds ρ M) :
    ∃ W : Nat → Nat → St → Hp → Prop, (∃ m, W 0 m σ H) ∧ ∀ i m σ H, W i m σ H →
      (J.stop i H ∧ (ends K M0 H0 D).nx σ H) ∨ (J.go i H ∧ ∃ N : St → Hp → Prop, (∀ σ' H', N σ' H' → ∃ m', m' < m ∧ W (i + 1) m' σ' H') ∧ ∀ x H', J.yld i H x H' →
        (∃ ρ M d Q0, Rep K H' σ ρ M ∧ Dat K H' d x ∧ g d ρ M Q0 ∧ ∀ σ2 H2, PostN K M H' Q0 σ2 H2 → dnS K tb { (ends K M0 H0 D) with nx := N, ct := N, bk := (ends K M0 H0 D).nx } σ2 H2)) := by
  refine ⟨fun i m σ1 H1 => m = ds.length - i ∧ i ≤ ds.length ∧ ∃ ρ1 M1, Fr M H M1 H1 ∧ Rep K H1 σ1 ρ1 M1 ∧ runFor gd g tb D (ds.drop i) ρ1 M1, ⟨ds.length, by simp, Nat.zero_le _, ρ, M, .refl _ _, r, by simpa using q⟩, ?_⟩
  rintro i m σ1 H1 ⟨rfl, hi, ρ1, M1, f1, r1, q1⟩
  by_cases hlt : i < ds.length
  · have hdr : ds.drop i = ds[i] :: ds.drop (i + 1) := List.drop_eq_getElem_cons hlt
    rw [hdr] at q1
    obtain ⟨hg, q1⟩ := q1
    have hI1 := stay M1 H1 f1 r1.mem hg
    refine .inr ⟨hJ.go i H1 hlt hI1, fun σ' H' => ∃ ρ' M', Fr M H M' H' ∧ Rep K H' σ' ρ' M' ∧ runFor gd g tb D (ds.drop (i + 1)) ρ' M', fun σ' H' ⟨ρ', M', f', r', q'⟩ => ⟨ds.length - (i + 1), by omega, rfl, hlt, ρ', M', f', r', q'⟩, fun x H' y => ?_⟩
    obtain ⟨e, d, hd1, hd2⟩ := hJ.yld i H1 x H' hlt hI1 y
    subst e
    have ed : d = ds[i] := Option.some.inj (hd1.symm.trans (List.getElem?_eq_getElem hlt))
    subst ed
    refine ⟨ρ1, M1, _, _, r1, hd2, q1, fun σ2 H2 ⟨ρ2, M2, f2, r2, q2⟩ => ?_⟩
    have f12 := f1.trans f2
    have f02 := f0.trans f12
    exact ⟨ρ2, M2, _, r2, q2, fun σ' H' ⟨ρ', M', f, r', z⟩ => ⟨ρ', M', f12.trans f, r', z⟩, fun _ _ p => p.back f02, fun _ _ p => p.back f02, fun σ' H' ⟨ρ', M', f, r', z⟩ => ⟨ρ', M', f12.trans f, r', z⟩⟩
  · have e : i = ds.length := by omega
    subst e
    rw [List.drop_of_length_le (Nat.le_refl _)] at q1
    obtain ⟨hg, q1⟩ := q1
    exact .inl ⟨hJ.stop H1 (stay M1 H1 f1 r1.mem hg), ρ1, M1, f0.trans f1, r1, q1⟩
def tForL (te : TE3) (g : TG3) (tb : TS3) : TS3 := fun D ρ M => te ρ M fun d M1 => ∃ a xs, d = .ref a ∧ M1 a = some (.lst xs) ∧ runFor (fun M => M a = some (.lst xs)) g tb D xs ρ M1
variable {tg iter : Expr} {body : List Stmt} {g : TG3} {tb : TS3}
theorem itl_is {K : PySem.W.Frag} {a : Addr} {ds : List L3.D} : ItIs K (Itl K a) (fun H => ∃ vs, H a = some (.lst vs) ∧ Dats K H ds vs) ds :=
  ⟨fun i H hi ⟨vs, h, hd⟩ => ⟨vs, vs[i]'(by rw [← hd.length]; exact hi), SqL.of h, List.getElem?_eq_getElem _⟩, fun i H x H' _ ⟨vs, h, hd⟩ y => ⟨y.1, hd.back (y.2 vs (SqL.of h))⟩, fun H ⟨vs, h, hd⟩ => ⟨vs, SqL.of h, by rw [hd.length]; exact Nat.le_refl _⟩⟩
theorem s_forL (hp : PassesOwn (model X.prog X.w) X.A X.env X.xe) (hc : X.calm = true) (hi : PE3 X iter te) (hg : PG3 X tg g) (hb : PSs3 X body tb)
    (hs : ∀ x, foldedSetIterable iter X.env x = pure x := by intro _; rfl) : PS3 X (.For tg iter body [] pos) (tForL te g tb) := upS (ps_for hp hc (pi_list hi.dn) hg.dn hb.dn hs) fun σ H ρ M D r q => dn_of r q fun v H' d M' f dv r' ⟨a, xs, e1, hM, q⟩ => by
  subst e1
  obtain rfl := dat_ref.mp dv
  obtain ⟨ys, ha, hy⟩ := r'.mem.lst hM
  exact ⟨a, rfl, ⟨ys, SqL.of ha⟩, for_core itl_is f r' (fun M1 H1 f1 rm1 g1 => rm1.lst g1) q⟩
end
section
variable {P : Program} {w : World} {K : PySem.W.Frag} {mg : Str → Option Value} {base : Heap}
def start3 (N : List Str) (ds : List D) : En := ds.map some ++ List.replicate (N.length - ds.length) none
theorem rep_start {H : Hp} {N : List Str} {ds : List D} {vs : List V} {M : Mp} (h : Dats K H ds vs) (rm : RepM K H M) : Rep K H (L2.start N vs) (start3 N ds) M := by
  have hl := h.length
  refine ⟨fun i d e => ?_, by unfold L2.start start3; simp [hl], rm⟩
  unfold start3 at e
  by_cases hi : i < ds.length
  · rw [List.getElem?_append_left (by simpa using hi), List.getElem?_map] at e
    cases q : ds[i]? with
    | none => rw [q] at e; cases e
    | some d' =>
      rw [q] at e
      cases e
      obtain ⟨v, h1, h2⟩ := h.get q
      refine ⟨v, ?_, h2⟩
      unfold L2.start
      rw [List.getElem?_append_left (by simp; omega), List.getElem?_map, h1]
      rfl
  · rw [List.getElem?_append_right (by simpa using hi), List.getElem?_replicate] at e
    split at e <;> cases e
theorem fnP {x qual : Str} {st : Stmt} {f : Addr} {fd : FuncData} {N ps : List Str} {k : Nat} {S : SpP} (F : Fun K x qual st f fd) (Sc : FnScope N ps (defScope st)) (len : ∀ ds Q, S ds Q → ds.length = ps.length)
    (hbody : ∀ (cdv : Value) (A : Around) (outer : List Env) (s : Shared) (H : Hp), Room k (A.deeper (envOfC qual (defScope st) s.heap.objs.size f cdv)) →
      ∃ t, PSs3 (cxOf CX0 P w K mg base N qual (defScope st) f cdv A outer s H E0).nox (defBody st) t ∧ ∀ ds Q, S ds Q → t { nx := fun _ _ => Q .non, rt := fun d _ => Q d } (start3 N ds) noM) :
    FnOk P w K mg base CX0 (k + 1) f fd ps (spP K S) := by
  refine F.ok Sc (fun vs H Q E h => ?_) (fun cdv A outer s H vs Q E hr h => ?_)
  · obtain ⟨ds, Q0, h1, h2, _⟩ := h
    rw [← h1.length, len ds Q0 h2]
  · obtain ⟨ds, Q0, h1, h2, h3⟩ := h
    obtain ⟨t, ht, hq⟩ := hbody cdv A outer s H hr
    have hE : (cxOf CX0 P w K mg base N qual (defScope st) f cdv A outer s H E).nox = (cxOf CX0 P w K mg base N qual (defScope st) f cdv A outer s H E0).nox := rfl
    refine ⟨_, PSs3.dn (by rw [hE]; exact ht), start3 N ds, noM, _, rep_start h1 RepM.no, hq ds Q0 h2, fun σ' H' ⟨ρ', M', f', r', q⟩ => ?_, fun v H' ⟨d, M', f', dv, rm, q⟩ => ?_, fun _ _ ⟨_, _, _, _, z⟩ => z.elim, fun _ _ ⟨_, _, _, _, z⟩ => z.elim⟩
    · exact h3 .non .non H' q (dat_non.mpr rfl) fun b o e => (f' b o rfl e).1
    · exact h3 d v H' q dv fun b o e => (f' b o rfl e).1
end
end L3
namespace L3
open PySem PySem.Spec PyProof.Rows L2
section
variable {X : Cx}
def intsOf : List D → Option (List Int)
  | [] => some []
  | .int i :: ds => (intsOf ds).map (i :: ·)
  | _ :: _ => none
theorem intsOf_map : ∀ {ds : List D} {ns : List Int}, intsOf ds = some ns → ds = ns.map D.int
  | [], ns, h => by cases h; rfl
  | .int i :: ds, ns, h => by
    have h : (intsOf ds).map (i :: ·) = some ns := h
    cases q : intsOf ds with
    | none => rw [q] at h; cases h
    | some ms =>
      rw [q] at h
      have h : i :: ms = ns := Option.some.inj h
      subst h
      rw [intsOf_map q]; rfl
  | .non :: _, ns, h => by cases h
  | .bl _ :: _, ns, h => by cases h
  | .str _ :: _, ns, h => by cases h
  | .ty _ :: _, ns, h => by cases h
  | .ref _ :: _, ns, h => by cases h
  | .tup _ :: _, ns, h => by cases h
  | .frl _ :: _, ns, h => by cases h
  | .thg _ :: _, ns, h => by cases h
  | .exc _ _ _ :: _, ns, h => by cases h
def ltD : D → D → Option Bool
  | .int i, .int j => some (decide (i < j))
  | .tup ds, .tup es => match intsOf ds, intsOf es with
    | some ns, some ms => some (HT.lexLt ns ms)
    | _, _ => none
  | _, _ => none
def rLtD : R3 := fun d e M Q => ∃ b, ltD d e = some b ∧ Q (.bl b) M
theorem o_ltD (hu : X.A.units + 64 < cLine) : Op3 X (compareOp .Lt) rLtD := by
  constructor
  intro pins s σ H M x y d e v u Q I rm rx ry dx dy ⟨b, hb, q⟩
  unfold ltD at hb
  split at hb
  · rename_i i j
    have hb := Option.some.inj hb
    subst hb
    exact o_lt.run pins s σ H M x y _ _ v u Q I rm rx ry dx dy ⟨i, j, rfl, rfl, q⟩
  · rename_i ds es
    split at hb
    · rename_i ns ms h1 h2
      have hb := Option.some.inj hb
      subst hb
      exact (o_ltT hu).run pins s σ H M x y _ _ v u Q I rm rx ry dx dy ⟨ns, ms, by rw [intsOf_map h1], by rw [intsOf_map h2], q⟩
    · cases hb
  · cases hb
theorem boot3_len : bootBuiltins "len" = some (.builtin "len") := by decide +kernel
theorem boot3_abs : bootBuiltins "abs" = some (.builtin "abs") := by decide +kernel
theorem boot3_min : bootBuiltins "min" = some (.builtin "min") := by decide +kernel
theorem boot3_isinstance : bootBuiltins "isinstance" = some (.builtin "isinstance") := by decide +kernel
theorem boot3_int : bootBuiltins "int" = some (.type "int") := by decide +kernel
theorem boot3_bool : bootBuiltins "bool" = some (.type "bool") := by decide +kernel
theorem boot3_tuple : bootBuiltins "tuple" = some (.type "tuple") := by decide +kernel
theorem boot3_ValueError : bootBuiltins "ValueError" = some (.type "ValueError") := by decide +kernel
end
theorem pow_mono {m n : Nat} (h : m ≤ n) : 2 ^ m ≤ 2 ^ n := Nat.pow_le_pow_right (by decide) h
theorem Sm.le {m n : Nat} {i : Int} (h : Sm m i) (l : m ≤ n) : Sm n i := Nat.lt_of_lt_of_le h (pow_mono l)
theorem Sm.of_abs {n : Nat} {i j : Int} (h : Sm n j) (l : i.natAbs ≤ j.natAbs) : Sm n i := Nat.lt_of_le_of_lt l h
theorem Sm.add {m n : Nat} {i j : Int} (h1 : Sm m i) (h2 : Sm n j) : Sm (max m n + 1) (i + j) := by
  have a := Nat.lt_of_lt_of_le h1 (pow_mono (Nat.le_max_left m n))
  have b := Nat.lt_of_lt_of_le h2 (pow_mono (Nat.le_max_right m n))
  show (i + j).natAbs < 2 ^ (max m n + 1)
  rw [Nat.pow_succ]
  have := Int.natAbs_add_le i j
  omega
theorem Sm.neg {n : Nat} {i : Int} (h : Sm n i) : Sm n (-i) := by
  show (-i).natAbs < _
  rw [Int.natAbs_neg]; exact h
theorem Sm.sub {m n : Nat} {i j : Int} (h1 : Sm m i) (h2 : Sm n j) : Sm (max m n + 1) (i - j) := by
  rw [Int.sub_eq_add_neg]; exact h1.add h2.neg
theorem Sm.mul {m n : Nat} {i j : Int} (h1 : Sm m i) (h2 : Sm n j) : Sm (m + n) (i * j) := by
  show (i * j).natAbs < 2 ^ (m + n)
  rw [Int.natAbs_mul, Nat.pow_add]
  exact Nat.mul_lt_mul'' h1 h2
theorem Sm.abs {n : Nat} {i : Int} (h : Sm n i) : Sm n (i.natAbs : Int) := h
theorem Sm.emod {n : Nat} {i j : Int} (hj : 0 < j) (h : Sm n j) : Sm n (i % j) := by
  have h1 := Int.emod_nonneg i (show j ≠ 0 by omega)
  have h2 := Int.emod_lt_of_pos i hj
  exact h.of_abs (by omega)
instance {n : Nat} {i : Int} : Decidable (Sm n i) := inferInstanceAs (Decidable (_ < _))
theorem Sm.sign (i : Int) : Sm 1 i.sign := by
  rcases Int.lt_trichotomy i 0 with h | h | h
  · rw [Int.sign_eq_neg_one_of_neg h]; decide
  · subst h; decide
  · rw [Int.sign_eq_one_of_pos h]; decide
theorem MulOk.of {m n : Nat} {i j : Int} (h1 : Sm m i) (h2 : Sm n j) (h : m + n ≤ 100000) : MulOk i j := ⟨m, n, h1, h2, h⟩
theorem Sm.lit (i : Int) : Sm (i.natAbs.log2 + 1) i := Nat.lt_log2_self
theorem Sm.two : Sm 2 2 := by decide
theorem Sm.one : Sm 1 1 := by decide
theorem Sm.zero : Sm 0 0 := by decide
theorem kit_same {K : PySem.W.Frag} {n : String} : PySem.W.kitOne K (.type n) (.type n) = some true := by simp [PySem.W.kitOne]
structure Pl where
  x : Int
  y : Int
  deriving DecidableEq
def Pl.d (p : Pl) : D := .tup [.int p.x, .int p.y]
def Pl.Ok (n : Nat) (p : Pl) : Prop := Sm n p.x ∧ Sm n p.y
end L3
namespace L3
open PySem L2
def S_lawOf : SpP := fun ds Q => ∃ ns : List Int, ds = [.frl (ns.map D.int)] ∧ ns.length ≤ 63 ∧ Q (.bl true)
theorem dats_ints {K : PySem.W.Frag} {H : Hp} : ∀ (ns : List Int), Dats K H (ns.map D.int) (ns.map V.int)
  | [] => dats_nil.mpr rfl
  | n :: ns => dats_cons.mpr ⟨_, _, rfl, dat_int.mpr rfl, dats_ints ns⟩
theorem law_sp {K : PySem.W.Frag} {H : Hp} {a : Addr} {ns : List Int} {E : XK} (hl : ns.length ≤ 63) (hO : Only H) (hS : SqL K H a (ns.map V.int)) : spP K S_lawOf [.ref a] H (fun v _ => v = .bl true) E := by
  have hz : Fz K H a (ns.map V.int) := by
    rcases hS with (h | ⟨o, h⟩) | h
    · rcases hO a with z | ⟨o, xs, z⟩
      · rw [z] at h; cases h
      · rw [z] at h; cases h
    · exact .inl ⟨o, h⟩
    · exact .inr h
  exact ⟨[.frl (ns.map D.int)], fun d => d = .bl true, Dats.one (dat_frl.mpr ⟨a, _, rfl, hz, dats_ints ns⟩), ⟨ns, rfl, hl, rfl⟩, fun d v H' q dv _ => by subst q; exact dat_bl.mp dv⟩
end L3
namespace L3
theorem runFor_inv {gd : Mp → Prop} {g : TG3} {tb : TS3} {D : En3} {ρ : En} {M : Mp} (Pv : Nat → En → Mp → Prop) : ∀ (xs : List L3.D),
    (∀ (i : Nat) (x : L3.D) (ρ : En) (M : Mp) (N : En → Mp → Prop), xs[i]? = some x → Pv i ρ M → (∀ ρ' M', Pv (i + 1) ρ' M' → N ρ' M') → gd M ∧ g x ρ M fun ρ2 M2 => tb { D with nx := N, ct := N, bk := D.nx } ρ2 M2) →
    (∀ ρ M, Pv xs.length ρ M → gd M ∧ D.nx ρ M) → Pv 0 ρ M → runFor gd g tb D xs ρ M := by
  intro xs hs hd h0
  have key : ∀ (ys : List L3.D) (i : Nat) (ρ : En) (M : Mp), xs.drop i = ys → Pv i ρ M → i ≤ xs.length → runFor gd g tb D ys ρ M := by
    intro ys
    induction ys with
    | nil =>
      intro i ρ M e p hi
      have : xs.length ≤ i := by
        have := congrArg List.length e
        rw [List.length_drop] at this
        simp at this
        omega
      have : i = xs.length := by omega
      subst this
      exact hd ρ M p
    | cons y ys ih =>
      intro i ρ M e p hi
      have hx : xs[i]? = some y := by
        have := congrArg (fun l => l[0]?) e
        simpa using this
      have hlt : i < xs.length := (List.getElem?_eq_some_iff.mp hx).1
      refine hs i y ρ M _ hx p fun ρ' M' p' => ih (i + 1) ρ' M' ?_ p' hlt
      rw [← List.drop_drop, e]
      rfl
  exact key xs 0 ρ M rfl h0 (Nat.zero_le _)
end L3
namespace L3
theorem pos_of_mul {a b : Int} (h : 0 < a * b) (ha : 0 < a) : 0 < b := by
  rcases Int.lt_or_le 0 b with q | q
  · exact q
  · have := Int.mul_nonneg (Int.le_of_lt ha) (show 0 ≤ -b by omega)
    rw [Int.mul_neg] at this
    omega
theorem sign_sq {b : Int} (h : b ≠ 0) : b.sign * b.sign = 1 := by
  rcases Int.lt_trichotomy b 0 with q | q | q
  · rw [Int.sign_eq_neg_one_of_neg q]; rfl
  · exact absurd q h
  · rw [Int.sign_eq_one_of_pos q]; rfl
theorem gcd_parts (a b : Int) (hb : b ≠ 0) : ∃ k l : Int, a = (Int.gcd a b : Int) * k ∧ b = (Int.gcd a b : Int) * l ∧ 0 < (Int.gcd a b : Int) ∧ Int.gcd k l = 1 := by
  obtain ⟨k, hk⟩ := Int.gcd_dvd_left (a := a) (b := b)
  obtain ⟨l, hl⟩ := Int.gcd_dvd_right (a := a) (b := b)
  have hg : 0 < Int.gcd a b := Int.gcd_pos_of_ne_zero_right a hb
  refine ⟨k, l, hk, hl, by omega, ?_⟩
  have e : Int.gcd ((Int.gcd a b : Int) * k) ((Int.gcd a b : Int) * l) = (Int.gcd a b : Int).natAbs * Int.gcd k l := Int.gcd_mul_left _ _ _
  rw [← hk, ← hl] at e
  have e2 : (Int.gcd a b : Int).natAbs = Int.gcd a b := rfl
  rw [e2] at e
  have : Int.gcd a b * 1 = Int.gcd a b * Int.gcd k l := by omega
  exact (Nat.eq_of_mul_eq_mul_left hg this).symm
def frac (a b : Int) : Pl := ⟨a.fdiv ((Int.gcd a b : Int) * b.sign), b.fdiv ((Int.gcd a b : Int) * b.sign)⟩
def low (a b : Int) : Pl := ⟨a / (Int.gcd a b : Int), b / (Int.gcd a b : Int)⟩
theorem low_spec {a b : Int} (hb : 0 < b) : 0 < (low a b).y ∧ (low a b).x * b = a * (low a b).y ∧ Int.gcd (low a b).x (low a b).y = 1 ∧ (low a b).x.natAbs ≤ a.natAbs ∧ (low a b).y.natAbs ≤ b.natAbs := by
  obtain ⟨k, l, ha, hl, hg, h1⟩ := gcd_parts a b (by omega)
  have e : low a b = ⟨k, l⟩ := by
    unfold low
    generalize hG : (Int.gcd a b : Int) = g at *
    have f1 : a / g = k := by rw [ha]; exact Int.mul_ediv_cancel_left _ (by omega)
    have f2 : b / g = l := by conv => { lhs; rw [hl] }; exact Int.mul_ediv_cancel_left _ (by omega)
    rw [f1, f2]
  rw [e]
  generalize hG : (Int.gcd a b : Int) = g at *
  refine ⟨?_, ?_, h1, ?_, ?_⟩
  · rw [hl] at hb
    exact pos_of_mul hb (by omega)
  · show k * b = a * l
    conv => lhs; arg 2; rw [hl]
    conv => rhs; arg 1; rw [ha]
    grind
  · show k.natAbs ≤ a.natAbs
    rw [ha, Int.natAbs_mul]
    exact Nat.le_mul_of_pos_left _ (by omega)
  · show l.natAbs ≤ b.natAbs
    conv => rhs; rw [hl, Int.natAbs_mul]
    exact Nat.le_mul_of_pos_left _ (by omega)
end L3
local macro_rules | `(tactic| walk_at "sm") => `(tactic| first | assumption | exact L3.Sm.sign _ | exact L3.Sm.zero | exact L3.Sm.one | exact L3.Sm.two | ((with_reducible apply L3.Sm.mul) <;> walk_at "sm") | ((with_reducible apply L3.Sm.sub) <;> walk_at "sm") | ((with_reducible apply L3.Sm.add) <;> walk_at "sm") | ((with_reducible apply L3.Sm.neg) <;> walk_at "sm") | ((with_reducible apply L3.Sm.abs) <;> walk_at "sm") | ((with_reducible apply L3.Sm.emod); (first | omega | decide +kernel); walk_at "sm") | exact L3.Sm.lit _)
local macro_rules | `(tactic| walk_at "smle") => `(tactic| (apply L3.Sm.le; walk_at "sm"; first | omega | decide +kernel))
namespace L3
@[irreducible] def sqN (p f g : Pl) : Int := (p.x * f.y - f.x) * g.y * ((p.x * f.y - f.x) * g.y) + (p.y * g.y - g.x) * f.y * ((p.y * g.y - g.x) * f.y)
@[irreducible] def sq (p f g : Pl) : Pl := frac (sqN p f g) (f.y * g.y * (f.y * g.y))
theorem ne_int {i j : Int} (h : i = j) : ¬ ((!eqD (L3.D.int i) (L3.D.int j)) = true) := by
  rw [h, eqD_int, beq_self_eq_true]; decide
end L3
namespace L3
@[irreducible] def tw (a b c : Pl) : Int := (b.x - a.x) * (c.y - a.y) - (b.y - a.y) * (c.x - a.x)
def bef (p q : Pl) : Prop := p.x < q.x ∨ (p.x = q.x ∧ p.y < q.y)
instance (p q : Pl) : Decidable (bef p q) := inferInstanceAs (Decidable (_ ∨ _))
def lo (p q : Pl) : Pl := if bef q p then q else p
def hi (p q : Pl) : Pl := if bef p q then q else p
@[irreducible] def apt (p q : Pl) : Int := (q.x - p.x) * (q.x - p.x) + (q.y - p.y) * (q.y - p.y)
@[irreducible] def dep (a b c d : Pl) : Int := apt d a * tw d b c + apt d b * tw d c a + apt d c * tw d a b
@[irreducible] def rg (a b c d : Pl) : Int := (tw a b c).sign * (dep a b c d).sign
end L3
namespace L3
def Spo (a b c d : Pl) : Prop := rg a b c d = 1 ∨ (rg a b c d = 0 ∧ d ≠ a ∧ d ≠ b ∧ d ≠ c ∧ ((bef d a ∧ bef d b ∧ bef d c) ∨ (bef a b ∧ bef a c ∧ bef a d ∧ (tw b c d).sign ≠ (tw b c a).sign) ∨ (bef b a ∧ bef b c ∧ bef b d ∧ (tw c a d).sign ≠ (tw c a b).sign) ∨ (bef c a ∧ bef c b ∧ bef c d ∧ (tw a b d).sign ≠ (tw a b c).sign)))
instance (a b c d : Pl) : Decidable (Spo a b c d) := inferInstanceAs (Decidable (_ ∨ _))
def Unl (p q r s : Pl) : Prop := (0 < tw p q r ∧ tw p q s < 0) ∨ (tw p q r < 0 ∧ 0 < tw p q s)
theorem Unl.ne {p q r s : Pl} (h : Unl p q r s) : tw p q r ≠ 0 ∧ tw p q s ≠ 0 := by unfold Unl at h; omega
def dt (a b x : Pl) : Int := (x.x - a.x) * (x.x - b.x) + (x.y - a.y) * (x.y - b.y)
end L3
namespace L3
end L3
namespace L3
end L3
namespace L3
open PySem PySem.Spec PyProof.Rows
section
variable {P : Program} {w : World} {A : Around} {E : Value → Shared → Prop} {s : Shared} {κ : KeyKind} {kd : SortKind} {z : Array Keyed} {t : SortSt}
structure Ask (P : Program) (w : World) (A : Around) (s : Shared) (κ : KeyKind) (kd : SortKind) : Prop where
  lt : ∀ (E : Value → Shared → Prop) (x y : Value) (a b : κ.α) (R : Bool → Shared → Prop), κ.keyOf x = some a → κ.keyOf y = some b → R (κ.blt a b) s → wpAny (model P w) A (keyLt' kd x y) R E s
structure Mid (kd : SortKind) (z : Array Keyed) (t : SortSt) : Prop where
  pm : (arrOf t).Perm z
  kd : kindOf t = kd
  ok : failedOf t = none
  no : pendingOf t = #[]
theorem Mid.sz (m : Mid kd z t) : (arrOf t).size = z.size := m.pm.size_eq
theorem Mid.key (m : Mid kd z t) (hk : KeysOf κ z) {i : Nat} (hi : i < z.size) : ∃ x q, (arrOf t)[i]? = some (x, q) ∧ κ.keyOf x = some (KK κ (arrOf t) i) := by
  have hlt : i < (arrOf t).size := m.sz ▸ hi
  have e : (arrOf t)[i]? = some (arrOf t)[i] := getElem?_pos _ i hlt
  obtain ⟨a, ha⟩ := hk (arrOf t)[i] ((Array.perm_iff_toList_perm.mp m.pm).mem_iff.mp (by simp))
  refine ⟨(arrOf t)[i].1, (arrOf t)[i].2, e, ?_⟩
  have ek : KK κ (arrOf t) i = a := by unfold KK; rw [e]; simp only [ha, Option.getD_some]
  rw [ek]; exact ha
structure Cut (κ : KeyKind) (y : Array Keyed) (k l r : Nat) : Prop where
  lr : l ≤ r
  rk : r ≤ k
  lo : ∀ i, i < l → κ.kle (KK κ y i) (KK κ y k)
  hi : ∀ i, r ≤ i → i < k → κ.klt (KK κ y k) (KK κ y i)
structure Fin3 (κ : KeyKind) (z : Array Keyed) (t : SortSt) : Prop where
  pm : (arrOf t).Perm z
  ok : failedOf t = none
  one : pendingOf t = #[(0, z.size, 0)]
  up : SortedToK κ (arrOf t) z.size
theorem Mid.fin (m : Mid kd z t) (up : SortedToK κ (arrOf t) z.size) : Fin3 κ z (setPending t ((pendingOf t).push (0, z.size, 0))) :=
  ⟨m.pm, m.ok, by show (pendingOf t).push (0, z.size, 0) = #[(0, z.size, 0)]; rw [m.no]; rfl, up⟩
end
end L3
namespace L3
open PySem PySem.Spec PyProof.Rows
section
variable {P : Program} {w : World} {A : Around} {E : Value → Shared → Prop} {s : Shared} {κ : KeyKind} {kd : SortKind}
end
end L3
namespace L3
open PySem PySem.Spec PyProof.Rows
def At2 (h : Heap) (v : Value) (p : Pl) : Prop := ∃ (a : Addr) (o : Obj) (t u : Tok) (n : Nat), v = .ref a ∧ h.get? a = some o ∧ o.cls = .type "tuple" ∧ o.data = .seq #[.int p.x t, .int p.y u] n
theorem At2.inj {h : Heap} {v : Value} {p q : Pl} (a : At2 h v p) (b : At2 h v q) : p = q := by
  obtain ⟨a1, o, t, u, n, rfl, h2, h3, h4⟩ := a
  obtain ⟨a2, o', t', u', n', e, k2, k3, k4⟩ := b
  injection e with e
  subst e
  rw [h2] at k2
  injection k2 with k2
  subst k2
  rw [h4] at k4
  injection k4 with k4 _
  cases p; cases q
  simp at k4
  obtain ⟨⟨e1, _⟩, e2, _⟩ := k4
  rw [e1, e2]
section
variable {P : Program} {w : World} {A : Around} {E : Value → Shared → Prop} {s : Shared}
end
end L3
namespace L3
open PySem PySem.Spec PyProof.Rows
section
variable {P : Program} {w : World} {A : Around} {E : Value → Shared → Prop} {s : Shared}
end
end L3
namespace HT
open PySem PyProof.Rows
section
open PySem.SeqAt
open PySem.AutoSeq1 (wpAny_loadPart')
open PySem.MeetsSeq PySem.MeetsSeq2 PySem.MeetsSeq3
end
section
variable {prog : Program} {w : World} {A : Around} {E : Value → Shared → Prop} {s : Shared}
end
end HT
namespace L3
open PySem PySem.Spec PyProof.Rows L2
section
variable {X : Cx} {pos : Pos}
def tIfJ3 (c : TT3) (t : TS3) : TS3 := fun D ρ M => ∃ J : En → Mp → Prop, (c ρ M fun b M1 => if b = true then t { D with nx := fun ρ' M' => Hold (J ρ' M') } ρ M1 else Hold (J ρ M1)) ∧ ∀ ρ M, J ρ M → D.nx ρ M
theorem s_ifJ {c : Expr} {a : List Stmt} {tc : TT3} {t : TS3} (hc : PT3 X c tc) (ha : PSs3 X a t) : PS3 X (.If c a [] pos) (tIfJ3 tc t) := by
  constructor
  intro pins s σ H ρ M D I r ⟨J, q, hJ⟩
  refine thn ((s_if hc ha b_nil).run pins s σ H ρ M { D with nx := fun ρ' M' => Hold (J ρ' M') } I r q) fun f s' z => ?_
  cases f with
  | next => obtain ⟨σ', H', I', ρ', M', fr, r', p⟩ := z; exact ⟨σ', H', I', ρ', M', fr, r', hJ _ _ p.out⟩
  | brk => exact z
  | cont => exact z
  | ret u => exact z
theorem At2.tup {h : Heap} {v : Value} {p : Pl} (a : At2 h v p) : ∃ (l : Addr) (its : Array Value), v = .ref l ∧ IsTup h l its ∧ IntsAre its.toList [p.x, p.y] := by
  obtain ⟨b, o, t, u, n, h1, h2, h3, h4⟩ := a
  exact ⟨b, _, h1, ⟨o, h2, h3, n, h4⟩, .cons _ _ (.cons _ _ .nil)⟩
def PlsAt (h : Heap) : List Value → List Pl → Prop := Paired (At2 h)
theorem PlsAt.get {h : Heap} : ∀ {us : List Value} {ps : List Pl} {i : Nat} {u : Value}, PlsAt h us ps → us[i]? = some u → ∃ p, ps[i]? = some p ∧ At2 h u p
  | _, _, i, u, .nil, e => by simp at e
  | _, _, i, u, .cons a r, e => by
    cases i with
    | zero => simp at e; subst e; exact ⟨_, rfl, a⟩
    | succ i => exact PlsAt.get (i := i) r (by simpa using e)
theorem Vals.len {xs : List V} {us : List Value} (r : Vals xs us) : us.length = xs.length := (Vals.length r).symm
theorem PlsAt.mem {h : Heap} : ∀ {us : List Value} {ps : List Pl} {v : Value}, PlsAt h us ps → v ∈ us → ∃ p, At2 h v p
  | _, _, v, .nil, m => by cases m
  | _, _, v, .cons a r, m => by
    rcases List.mem_cons.mp m with rfl | m
    · exact ⟨_, a⟩
    · exact PlsAt.mem r m
end
end L3
local macro_rules | `(tactic| walk_at "sm") => `(tactic| first | assumption | exact L3.Sm.sign _ | exact L3.Sm.zero | exact L3.Sm.one | exact L3.Sm.two | ((with_reducible apply L3.Sm.mul) <;> walk_at "sm") | ((with_reducible apply L3.Sm.sub) <;> walk_at "sm") | ((with_reducible apply L3.Sm.add) <;> walk_at "sm") | ((with_reducible apply L3.Sm.neg) <;> walk_at "sm") | ((with_reducible apply L3.Sm.abs) <;> walk_at "sm") | ((with_reducible apply L3.Sm.emod); (first | omega | decide +kernel); walk_at "sm") | exact L3.Sm.lit _)
local macro_rules | `(tactic| walk_at "mulok") => `(tactic| (apply L3.MulOk.of; walk_at "sm"; walk_at "sm"; first | omega | decide +kernel))
local macro_rules | `(tactic| walk_at "rd1") => `(tactic| first | refine ⟨_, rfl, ?_⟩ | refine ⟨_, _, rfl, rfl, ?_⟩ | refine ⟨_, _, _, Or.inl rfl, rfl, rfl, ?_⟩ | (refine ⟨?side, ?_⟩; (case side => first | walk_at "mulok" | (simp only [List.length_cons, List.length_nil]; decide) | (show (0 : Int) < _; first | omega | (dsimp only; omega) | decide +kernel) | (show (0 : Int) ≤ _; first | omega | (dsimp only; omega)) | exact ⟨by decide +kernel, by decide +kernel, by decide +kernel⟩ | exact ⟨by decide +kernel, _, L3.Sm.lit _, by decide +kernel⟩ | (left; walk_at "mulok") | exact Or.inr (Or.inr ⟨by decide, by decide⟩) | decide)) | refine ⟨rfl, ?_⟩ | refine ⟨trivial, ?_⟩ | refine ⟨_, Or.inl rfl, rfl, ?_⟩ | refine ⟨_, _, rfl, Or.inl rfl, ?_⟩ | refine ⟨_, _, _, _, rfl, L3.Ty3.int _, L3.kit_same, ?_⟩ | refine ⟨_, _, _, _, rfl, L3.Ty3.tup _, L3.kit_same, ?_⟩ | refine ⟨_, _, _, _, rfl, L3.Ty3.bl _, L3.kit_same, ?_⟩ | refine ⟨_, _, rfl, ?_⟩ | refine ⟨_, _, _, rfl, ?_⟩ | refine ⟨_, _, _, _, rfl, ?_⟩)
local macro_rules | `(tactic| walk_at "rd") => `(tactic| repeat walk_at "rd1")
local macro_rules | `(tactic| walk_at "smle") => `(tactic| (apply L3.Sm.le; walk_at "sm"; first | omega | decide +kernel))
local macro_rules | `(tactic| walk_at "om") => `(tactic| first | omega | (dsimp only; omega))
namespace L3
open PySem L2
instance (p q r s : Pl) : Decidable (Unl p q r s) := inferInstanceAs (Decidable (_ ∨ _))
end L3
namespace L3
open PySem PySem.Spec PyProof.Rows L2
def closeL (cells : List (Str × Addr)) (names : List (Str × NameKind)) (cs : List (Str × Addr)) : List (Str × Addr) :=
  names.foldl (fun cs y => if (y.2 == NameKind.free) = true then (y.1, (cells.lookup y.1).getD 0) :: cs else cs) cs
theorem forIn_fold {α β : Type} {f : α → β → Sem (ForInStep β)} {g : β → α → β} : ∀ {l : List α} {b : β}, (∀ x ∈ l, ∀ b, f x b = pure (.yield (g b x))) → forIn l b f = (pure (l.foldl g b) : Sem β)
  | [], b, _ => rfl
  | x :: l, b, h => by
    rw [List.forIn_cons, h x (List.mem_cons_self ..), pure_bind]
    exact forIn_fold fun y hy => h y (List.mem_cons_of_mem _ hy)
theorem closure_is {sc : Scope} {env : Env} (h : ∀ y ∈ sc.names, y.2 = .free → ∃ c, env.cells.lookup y.1 = some c) : closureFor sc env = pure (closeL env.cells sc.names []) := by
  unfold closureFor closeL
  dsimp only
  rw [forIn_fold (g := fun cs y => if (y.2 == NameKind.free) = true then (y.1, (env.cells.lookup y.1).getD 0) :: cs else cs)]
  · rfl
  · rintro ⟨n, k⟩ hy b
    by_cases hk : k = .free
    · subst hk
      obtain ⟨c, hc⟩ := h _ hy rfl
      have hc : env.cells.lookup n = some c := hc
      simp [cellOf, hc]
    · have hb : (k == NameKind.free) = false := by simpa using hk
      simp [hb]
theorem closeL_from {cells : List (Str × Addr)} {x : Str} {c : Addr} : ∀ {names : List (Str × NameKind)} {cs : List (Str × Addr)}, (∀ y ∈ names, y.2 = .free → ∃ c, cells.lookup y.1 = some c) → (∀ x c, cs.lookup x = some c → cells.lookup x = some c) →
    (closeL cells names cs).lookup x = some c → cells.lookup x = some c
  | [], cs, _, h, e => h x c e
  | (n, k) :: r, cs, hf, h, e => by
    refine closeL_from (names := r) (cs := if (k == NameKind.free) = true then (n, (cells.lookup n).getD 0) :: cs else cs) (fun y hy => hf y (List.mem_cons_of_mem _ hy)) (fun x c q => ?_) e
    split at q
    · rename_i hk
      rw [List.lookup_cons] at q
      split at q
      · rename_i hx
        have hx := eq_of_beq hx
        subst hx
        obtain ⟨c', hc⟩ := hf (x, k) (List.mem_cons_self ..) (eq_of_beq hk)
        have hc : cells.lookup x = some c' := hc
        rw [hc] at q
        rw [hc]; exact q
      · exact h x c q
    · exact h x c q
theorem closeL_more {cells : List (Str × Addr)} {x : Str} : ∀ {names : List (Str × NameKind)} {cs : List (Str × Addr)}, ((cs.lookup x).isSome = true ∨ (x, NameKind.free) ∈ names) → ((closeL cells names cs).lookup x).isSome = true
  | [], cs, h => by
    rcases h with h | h
    · exact h
    · cases h
  | (n, k) :: r, cs, h => by
    refine closeL_more (names := r) (cs := if (k == NameKind.free) = true then (n, (cells.lookup n).getD 0) :: cs else cs) ?_
    rcases h with h | h
    · left
      split
      · rw [List.lookup_cons]
        split
        · rfl
        · exact h
      · exact h
    · rcases List.mem_cons.mp h with e | h
      · left
        cases e
        simp [List.lookup_cons]
      · exact .inr h
theorem mem_of_lookup {β : Type} {x : Str} {b : β} : ∀ {l : List (Str × β)}, l.lookup x = some b → (x, b) ∈ l
  | [], h => by cases h
  | (n, c) :: r, h => by
    rw [List.lookup_cons] at h
    split at h
    · rename_i hx
      cases h
      have := eq_of_beq hx
      subst this
      exact List.mem_cons_self ..
    · exact List.mem_cons_of_mem _ (mem_of_lookup h)
def compChk (outer : Scope) (N : List Str) (sc : Scope) (x : Str) (ys : List Str) (fs : List Nat) : Bool :=
  (sc.kind == .function) && (outer.kind == .function) && sc.names.all (fun y => !(y.2 == .cell) && (!(y.2 == .local) || sc.names.lookup y.1 == some .local) && (!(y.2 == .free) || outer.names.lookup y.1 == some .cell)) && (sc.names.lookup x == some .local) &&
    decide (ys.length = fs.length) && (ys.zip fs).all (fun p => N[p.2]? == some p.1 && sc.names.lookup p.1 == some .free) && decide (x :: ys).Nodup
structure CompOk (outer : Scope) (N : List Str) (sc : Scope) (x : Str) (ys : List Str) (fs : List Nat) : Prop where
  kind : sc.kind = .function
  okind : outer.kind = .function
  nocell : ∀ y ∈ sc.names, y.2 ≠ .cell
  names : ∀ y ∈ sc.names, y.2 = .local → sc.names.lookup y.1 = some .local
  fre : ∀ y ∈ sc.names, y.2 = .free → outer.names.lookup y.1 = some .cell
  loc : sc.names.lookup x = some .local
  len : ys.length = fs.length
  at' : ∀ (k : Nat) y, ys[k]? = some y → ∃ i, fs[k]? = some i ∧ N[i]? = some y ∧ sc.names.lookup y = some .free
  nd : (x :: ys).Nodup
theorem CompOk.of {outer : Scope} {N : List Str} {sc : Scope} {x : Str} {ys : List Str} {fs : List Nat} (h : compChk outer N sc x ys fs = true) : CompOk outer N sc x ys fs := by
  unfold compChk at h
  simp only [Bool.and_eq_true, List.all_eq_true, decide_eq_true_eq] at h
  obtain ⟨⟨⟨⟨⟨⟨h1, h1'⟩, h2⟩, h3⟩, h4⟩, h5⟩, h6⟩ := h
  refine ⟨eq_of_beq h1, eq_of_beq h1', fun y hy z => ?_, fun y hy z => ?_, fun y hy z => ?_, eq_of_beq h3, h4, fun k y e => ?_, h6⟩
  · have := (h2 y hy).1.1
    rw [z] at this
    simp at this
  · have := (h2 y hy).1.2
    rw [z] at this
    simpa using this
  · have := (h2 y hy).2
    rw [z] at this
    simpa using this
  · have hk : k < fs.length := by rw [← h4]; exact (List.getElem?_eq_some_iff.mp e).1
    have ez : (ys.zip fs)[k]? = some (y, fs[k]) := by
      rw [List.getElem?_zip_eq_some]
      exact ⟨e, List.getElem?_eq_getElem hk⟩
    obtain ⟨q1, q2⟩ := h5 _ (List.mem_of_getElem? ez)
    exact ⟨fs[k], List.getElem?_eq_getElem hk, eq_of_beq q1, eq_of_beq q2⟩
theorem relabel_free {env : Env} {y : Str} (hk : env.scope.kind = .function) (hc : env.scope.names.lookup y = some .cell) : ∀ {names : List (Str × NameKind)}, names.lookup y = some .free →
    (names.map fun (n, k) => if (k == NameKind.free && env.scope.kind == .function && env.kindOf n == some .cell) then (n, NameKind.cell) else (n, k)).lookup y = some .cell
  | [], h => by cases h
  | (n, k) :: r, h => by
    rw [List.lookup_cons] at h
    split at h
    · rename_i hx
      cases h
      have := eq_of_beq hx
      subst this
      have hc : env.kindOf y = some .cell := hc
      simp [hk, hc, List.lookup_cons]
    · rename_i hx
      have ih := relabel_free hk hc h
      simp only [List.map_cons]
      split
      · rw [List.lookup_cons, hx]; exact ih
      · rw [List.lookup_cons, hx]; exact ih
abbrev blk (X : Cx) (sc : Scope) (x : Str) (ys : List Str) (cl : List (Str × Addr)) (C : Addr) (s0 : Shared) (H0 : Hp) (ex : List Addr) : Cx :=
  { X with N := x :: ys, s₀ := s0, H₀ := H0, env := compEnvC sc cl C X.env, outer := X.stack, ex := ex, fn := fun _ => false, pn := [], xe := fun _ _ => False }
structure PL3 (X : Cx) (ifs : List Expr) (t : TT3) : Prop where
  run : ∀ (pins : List (Addr × Obj)) (s : Shared) (σ : St) (H : Hp) (ρ : En) (M : Mp) (Q : Bool → Mp → Prop), Inv X pins σ H s → Rep X.K H σ ρ M → t ρ M Q →
    wpAny (model X.prog X.w) X.A (forIn ifs true fun c r => if r = true then do { let ok ← isTrue c X.env (eval c X.env); pure (ForInStep.yield ok) } else pure (ForInStep.yield r)) (TP X pins σ (PostB X.K M H Q)) X.xe s
def tYes : TT3 := fun _ M Q => Q true M
theorem l_nil {X : Cx} : PL3 X [] tYes := ⟨fun pins s σ H ρ M Q I r q => wpAny_tests_nil ⟨H, I, M, .refl _ _, r.mem, q⟩⟩
theorem l_one {X : Cx} {c : Expr} {t : TT3} (h : PT3 X c t) : PL3 X [c] t := ⟨fun pins s σ H ρ M Q I r q => wpAny_tests_one (h.run pins s σ H ρ M Q I r q)⟩
def runLC (gd : Mp → Prop) (tt : TT3) (te : TE3) (fr : En) (Q : List D → Mp → Prop) : List D → List D → Mp → Prop
  | [], acc, M => gd M ∧ Q acc M
  | d :: ds, acc, M => gd M ∧ tt (some d :: fr) M fun b M1 => if b = true then te (some d :: fr) M1 fun y M2 => runLC gd tt te fr Q ds (acc ++ [y]) M2 else runLC gd tt te fr Q ds acc M1
def frOf (fs : List Nat) (ρ : En) : En := fs.map fun i => (ρ[i]?).join
section
variable {X : Cx} {sc : Scope} {x : Str} {ys : List Str} {fs : List Nat}
theorem frOf_get {fs : List Nat} {ρ : En} {k : Nat} {d : D} (h : (frOf fs ρ)[k]? = some (some d)) : ∃ i, fs[k]? = some i ∧ ρ[i]? = some (some d) := by
  unfold frOf at h
  rw [List.getElem?_map] at h
  cases e : fs[k]? with
  | none => rw [e] at h; cases h
  | some i =>
    rw [e] at h
    refine ⟨i, rfl, ?_⟩
    have h : (ρ[i]?).join = some d := Option.some.inj h
    cases q : ρ[i]? with
    | none => rw [q] at h; cases h
    | some o => rw [q] at h; rw [show o = some d from h]
theorem blk_start {pins : List (Addr × Obj)} {σ : St} {H : Hp} {s s' : Shared} {C : Addr} {fp : List Addr} {cl : List (Str × Addr)} {ρ : En} {M : Mp} (ck : CompOk X.env.scope X.N sc x ys fs) (I : Inv X pins σ H s) (r : Rep X.K H σ ρ M) (hcl : cl = closeL X.env.cells sc.names [])
    (hC : s.heap.objs.size ≤ C) (old : ∀ b o, s.heap.get? b = some o → s'.heap.get? b = some o) (ns : ∃ m, s'.heap.Ns C m) (hos : s'.os = s.os) (hg : s'.gens = s.gens) (hf : ∀ b ∈ fp, FpOk X pins H b) (hfp : ∀ b ∈ fp, b < s.heap.objs.size) :
    ∃ σ', Inv (blk X sc x ys cl C s H fp) [] σ' H s' ∧ Rep X.K H σ' (none :: frOf fs ρ) M := by
  have hcells : ∀ y ∈ sc.names, y.2 = .free → ∃ c, X.env.cells.lookup y.1 = some c := fun y hy hk => I.ok.has y.1 (.inl (ck.fre y hy hk))
  have cf : ∀ {y c}, cl.lookup y = some c → X.env.cells.lookup y = some c := fun {y c} e => by rw [hcl] at e; exact closeL_from hcells (fun _ _ z => by cases z) e
  have ch : ∀ y, sc.names.lookup y = some .free → ∃ c, cl.lookup y = some c := fun y e => by rw [hcl]; exact Option.isSome_iff_exists.mp (closeL_more (.inr (mem_of_lookup e)))
  have rk : ∀ y k, (relabel sc X.env).names.lookup y = some k → (k = .cell ∨ k = .free) → ∃ c, cl.lookup y = some c := by
    intro y k e hk
    have : ∃ k', sc.names.lookup y = some k' ∧ (k' = k ∨ k' = .free) := by
      clear ck hcells cf ch
      revert e
      show (sc.names.map _).lookup y = some k → _
      generalize sc.names = names
      intro e
      induction names with
      | nil => cases e
      | cons p r ih =>
        obtain ⟨n, kn⟩ := p
        simp only [List.map_cons] at e
        rw [List.lookup_cons]
        split
        · rename_i hx
          split at e
          · rename_i hc
            refine ⟨kn, rfl, .inr ?_⟩
            simp only [Bool.and_eq_true] at hc
            exact eq_of_beq hc.1.1
          · rw [List.lookup_cons, hx] at e
            exact ⟨kn, rfl, .inl (Option.some.inj e)⟩
        · rename_i hx
          split at e <;> (rw [List.lookup_cons, hx] at e; exact ih e)
    obtain ⟨k', e', hk'⟩ := this
    rcases hk' with rfl | rfl
    · rcases hk with rfl | rfl
      · exact absurd rfl (ck.nocell _ (mem_of_lookup e'))
      · exact ch y e'
    · exact ch y e'
  have lfp : ∀ b ∈ fp, b ≠ C := fun b hb z => absurd (Nat.lt_of_lt_of_le (hfp b hb) hC) (by rw [z]; exact Nat.lt_irrefl _)
  have ok : (blk X sc x ys cl C s H fp).Ok := {
    mod := I.ok.mod
    kind := ck.kind
    glob := I.ok.glob
    blt := I.ok.blt
    above := hC
    inj := fun a b c e1 e2 => I.ok.inj a b c (cf e1) (cf e2)
    has := fun y hy => by
      rcases hy with hy | hy
      · exact rk y _ hy (.inl rfl)
      · exact rk y _ hy (.inr rfl)
    cab := fun _ _ z => by cases z
    hd := I.ok.hd
    frames := I.ok.frames
    stk := .inl rfl
    exf := fun b hb => ⟨lfp b hb, fun y c e => (hf b hb).2.2.2.2.1 y c (cf e)⟩
    bs := I.bs
    bsz := Nat.le_trans I.ok.bsz I.sz
    noex := fun b o e hb => by
      rcases (hf b hb).2.2.2.1 with z | z
      · exact I.ok.noex b o e z
      · exact absurd (Nat.lt_of_lt_of_le (Heap.lt_size (I.ok.bs b o e).1) z) (Nat.lt_irrefl _)
    exfs := fun b hb z => by
      rcases List.mem_cons.mp (I.stkSub b z) with e | e
      · exact (hf b hb).2.1 e
      · exact (hf b hb).2.2.1 e
    funs := I.stack
    frf := I.stkFree }
  have fC : H C = none := I.hok.fresh hC
  obtain ⟨m, hm⟩ := ns
  refine ⟨none :: fs.map (fun i => (σ[i]?).join), ⟨ok, hos, by rw [hg]; exact I.bare, Un.kept old, ⟨m, hm, fun i y v e1 e2 e3 => ?_⟩, fun y c e => ?_, fC, fun y c e => I.freeC y c (cf e), fun p hp => (by cases hp), I.hok.kept old, by simp [ck.len]⟩, ⟨fun i d e => ?_, ?_, r.mem⟩⟩
  · cases i with
    | zero => cases e2
    | succ i =>
      have e1 : ys[i]? = some y := e1
      obtain ⟨j, f1, f2, f3⟩ := ck.at' i y e1
      have e2 : (fs.map fun i => (σ[i]?).join)[i]? = some (some v) := e2
      rw [List.getElem?_map, f1] at e2
      have e2 : (σ[j]?).join = some v := Option.some.inj e2
      have e4 : σ[j]? = some (some v) := by
        cases q : σ[j]? with
        | none => rw [q] at e2; cases e2
        | some o => rw [q] at e2; rw [show o = some v from e2]
      have hc : X.env.scope.names.lookup y = some .cell := ck.fre (y, .free) (mem_of_lookup f3) rfl
      obtain ⟨m0, _, hl⟩ := I.loc
      obtain ⟨u, ru, lk⟩ := hl j y v f2 e4 (.inr (.inl hc))
      refine ⟨u, ru, ?_⟩
      rcases lk with ⟨k1, _⟩ | ⟨_, c, e5, e6⟩
      · have k1 : X.env.scope.names.lookup y = some .local := k1
        rw [hc] at k1; cases k1
      · obtain ⟨c', e7⟩ := ch y f3
        have := cf e7
        rw [e5] at this
        cases this
        refine .inr ⟨.inl (relabel_free I.ok.kind hc f3), c, e7, ?_⟩
        obtain ⟨o, ho, hd⟩ := e6
        exact ⟨o, old _ _ ho, hd⟩
  · obtain ⟨v, o, ho, hd⟩ := I.cell y c (cf e)
    exact ⟨v, o, old _ _ ho, hd⟩
  · cases i with
    | zero => cases e
    | succ i =>
      obtain ⟨j, f1, f2⟩ := frOf_get (show (frOf fs ρ)[i]? = some (some d) from e)
      obtain ⟨v, g1, g2⟩ := r.env j d f2
      refine ⟨v, ?_, g2⟩
      show (fs.map fun i => (σ[i]?).join)[i]? = some (some v)
      rw [List.getElem?_map, f1]
      show some ((σ[j]?).join) = _
      rw [g1]; rfl
  · simp [frOf]
end
end L3
namespace L3
open PySem PySem.Spec PyProof.Rows L2
section
variable {X : Cx} {sc : Scope} {x : Str} {ys : List Str} {fs : List Nat} {elt iter : Expr} {px pos : Pos} {ifs : List Expr} {tt : TT3} {te : TE3}
theorem thnF {α : Type} {t : Sem α} {Q Q' : α → Shared → Prop} {M : Model} {A : Around} {E : Value → Shared → Prop} {s : Shared} (h : wpAny M A t Q (fun _ _ => False) s) (hQ : ∀ a s, Q a s → Q' a s) : wpAny M A t Q' E s := wpAny_mono h hQ fun _ _ z => z.elim
theorem compTurn_is (elt target iter : Expr) (ifs : List Expr) (sc : Scope) (pos : Pos) (it acc : Value) (env : Env) : compTurn (.ListComp elt [⟨target, iter, ifs, 0⟩] sc pos) 0 it acc env = (standAt iter.pos >>= fun _ => pyNext it >>= fun r => match r with
    | none => pure (.done .next)
    | some v => letOwnedTupleGo target it v >>= fun _ => assign target env v >>= fun _ => (forIn ifs true fun c r => if r = true then do { let ok ← isTrue c env (eval c env); pure (ForInStep.yield ok) } else pure (ForInStep.yield r)) >>= fun ok =>
      if ok = true then (eval elt env >>= fun y => call (.builtin "list.append") [acc, y] >>= fun _ => again (.compLoop (.ListComp elt [⟨target, iter, ifs, 0⟩] sc pos) 0 it acc env)) else again (.compLoop (.ListComp elt [⟨target, iter, ifs, 0⟩] sc pos) 0 it acc env)) := by
  rw [compTurn_list]
  congr 1; funext _; congr 1; funext r
  cases r with
  | none => rfl
  | some v =>
    dsimp only
    congr 1; funext _; congr 1; funext _; congr 1; funext ok
    cases ok with
    | false => rfl
    | true => simp only [if_true, bind_assoc, pure_bind]
structure LcSt (X X' : Cx) (Dl : Addr) (fp : List Addr) (tn : Nat → Heap → Prop) (M0 : Mp) (H0 : Hp) (fr : En) (i : Nat) (s : Shared) (acc : List D) (M : Mp) : Prop where
  ex : ∃ σ H y ws, Inv X' [] σ H s ∧ tn i s.heap ∧ (∀ b ∈ fp, H b = none) ∧ Rep X.K H σ (y :: fr) M ∧ Fr M0 H0 M H ∧ H Dl = some (.lst ws) ∧ M Dl = none ∧ Dats X.K H acc ws ∧ acc.length ≤ i
theorem lc_core (hc : X.calm = true) (ck : CompOk X.env.scope X.N sc x ys fs) (ht : ∀ cl C s0 H0 ex, PL3 (blk X sc x ys cl C s0 H0 ex) ifs tt) (he : ∀ cl C s0 H0 ex, PE3 (blk X sc x ys cl C s0 H0 ex) elt te)
    {pins : List (Addr × Obj)} {σ : St} {H : Hp} {s : Shared} {ρ : En} {M : Mp} {it : Addr} {fp : List Addr} {tn : Nat → Heap → Prop} {J : It} {inv : Hp → Prop} {ds : List D} {gd : Mp → Prop} {Q : DK} {E : Value → Shared → Prop} {Ma : Mp} {Ha : Hp} {use : Option (Value → Sem Unit)} {Qs : Value → Shared → Prop} (fa : Fr Ma Ha M H)
    (fin : ∀ (C Dl : Addr) (s6 : Shared) (H5 : Hp), Inv X pins σ H5 s6 → (∃ m, s6.heap.Ns C m) → FpOk X pins H5 C → Post X.K Ma Ha Q (.ref Dl) H5 → compPost (model X.prog X.w) X.A E use Qs (.ref Dl) C (.ok .next) s6)
    (I : Inv X pins σ H s) (r : Rep X.K H σ ρ M) (T : Turn X.prog X.w X.K (.Name x px) J fp it tn) (st : tn 0 s.heap) (hf : ∀ b ∈ fp, FpOk X pins H b) (hJ : ItIs X.K J inv ds) (hz : ds.length < sizeLine)
    (stay : ∀ M1 H1, Fr M H M1 H1 → RepM X.K H1 M1 → gd M1 → inv H1) (q : runLC gd tt te (frOf fs ρ) (fun zs M2 => ∀ p, M2 p = none → Q (.ref p) (updM M2 p (.lst zs))) ds [] M) :
    wpAny (model X.prog X.w) X.A (newList []) (fun acc s3 => wpAny (model X.prog X.w) X.A (newFunctionEnv sc X.env.globals (closeL X.env.cells sc.names []) [] X.env.qual none .none (some X.env)) (fun cenv s4 =>
      codeAny (model X.prog X.w) X.A (.compStart (.ListComp elt [⟨.Name x px, iter, ifs, 0⟩] sc pos) 0 (.ref it) acc { cenv with scope := relabel sc X.env }) (compPost (model X.prog X.w) X.A E use Qs acc cenv.locals) s4) E s3) E s := by
  have hfp : ∀ b ∈ fp, b < s.heap.objs.size := fun b hb => by
    obtain ⟨o, e, _⟩ := T.obj 0 _ st b hb
    exact Heap.lt_size e
  refine wpAny_newList (hsz := Nat.zero_le _) ?_
  have fD : H s.heap.objs.size = none := I.hok.fresh (Nat.le_refl _)
  have k1 : ∀ b o, s.heap.get? b = some o → (s.heap.push { cls := .type "list", data := .seq ([] : List Value).toArray }).get? b = some o := fun b o e => Heap.get?_push_of_some _ e
  have z3 : (s.heap.push { cls := .type "list", data := .seq ([] : List Value).toArray }).objs.size = s.heap.objs.size + 1 := Heap.size_push ..
  have I3 : Inv X pins σ (upd H s.heap.objs.size (.lst [])) { s with heap := s.heap.push { cls := .type "list", data := .seq ([] : List Value).toArray } } :=
    I.laid (t' := s.toks) k1 (Nat.le_refl _) ⟨Nat.zero_le _, [], 0, .nil, Heap.get?_push_size _ rfl⟩
  refine wpAny_newFunctionEnv ck.nocell (fun y hy => by cases hy) (fun h1 ns1 sb1 => ?_) ck.kind
  generalize hs3 : ({ s with heap := s.heap.push { cls := .type "list", data := .seq ([] : List Value).toArray } } : Shared) = s3 at I3 ns1 sb1 ⊢
  have zs3 : s3.heap.objs.size = s.heap.objs.size + 1 := by rw [← hs3]; exact z3
  have old : ∀ b o, s3.heap.get? b = some o → h1.get? b = some o := fun b o e => sb1.extBut b o (Nat.ne_of_lt (Heap.lt_size e)) (Heap.get?_push_of_some _ e)
  have hf3 : ∀ b ∈ fp, FpOk X pins (upd H s.heap.objs.size (.lst [])) b := fun b hb => ⟨by rw [upd_ne (Nat.ne_of_lt (hfp b hb))]; exact (hf b hb).1, (hf b hb).2⟩
  have frN : Fr M H M (upd H s.heap.objs.size (.lst [])) := Fr.new fD fun _ _ => rfl
  have r3 : Rep X.K (upd H s.heap.objs.size (.lst [])) σ ρ M := r.go frN (r.mem.new fD)
  obtain ⟨σ', I4, r4⟩ := blk_start (s := s3) (s' := { s3 with heap := h1, toks := s3.toks + ([] : List (Str × Value)).length }) (C := s3.heap.objs.size) (fp := fp) ck I3 r3 rfl (Nat.le_refl _) old ⟨_, ns1⟩ rfl rfl hf3 (fun b hb => by rw [zs3]; exact Nat.lt_succ_of_lt (hfp b hb))
  have MD : M s.heap.objs.size = none := r.mem.free fD
  have st4 : tn 0 h1 := T.keep 0 _ _ st fun b hb o e => old b o (by rw [← hs3]; exact k1 b o e)
  have fpX : ∀ {H' : Hp}, (∀ b ∈ fp, H' b = none) → ∀ b ∈ fp, FpOk (blk X sc x ys (closeL X.env.cells sc.names []) s3.heap.objs.size s3 (upd H s.heap.objs.size (.lst [])) fp) [] H' b := fun {H'} hn b hb =>
    ⟨hn b hb, (I4.ok.exf b hb).1, I4.ok.exfs b hb, .inl hb, fun y c e z => (I4.ok.exf b hb).2 y c e z, fun p hp => by cases hp⟩
  have loop : ∀ s4 : Shared, s4 = { s3 with heap := h1, toks := s3.toks + ([] : List (Str × Value)).length } →
      codeAny (model X.prog X.w) X.A (.compLoop (.ListComp elt [⟨.Name x px, iter, ifs, 0⟩] sc pos) 0 (.ref it) (.ref s.heap.objs.size) ((blk X sc x ys (closeL X.env.cells sc.names []) s3.heap.objs.size s3 (upd H s.heap.objs.size (.lst [])) fp)).env) (compPost (model X.prog X.w) X.A E use Qs (.ref s.heap.objs.size) s3.heap.objs.size) s4 := by
    rintro s4 rfl
    refine codeAny_loop rfl (I := fun n s' => ∃ i acc M', n = ds.length - i ∧ i ≤ ds.length ∧ LcSt X (blk X sc x ys (closeL X.env.cells sc.names []) s3.heap.objs.size s3 (upd H s.heap.objs.size (.lst [])) fp) s.heap.objs.size fp tn M H (frOf fs ρ) i s' acc M' ∧ runLC gd tt te (frOf fs ρ) (fun zs M2 => ∀ p, M2 p = none → Q (.ref p) (updM M2 p (.lst zs))) (ds.drop i) acc M')
      (fun n s5 hI => ?_) ds.length ⟨0, [], M, rfl, Nat.zero_le _, ⟨σ', _, none, [], I4, st4, fun b hb => (hf3 b hb).1, r4, frN, upd_same, MD, dats_nil.mpr rfl, Nat.le_refl _⟩, q⟩
    obtain ⟨i, acc, M5, rfl, hi, ⟨σ5, H5, y5, ws, I5, st5, f5, r5, fr5, hD5, hM5, da5, la5⟩, q5⟩ := hI
    show wpAny (model X.prog X.w) X.A ((compTurn (.ListComp elt [⟨.Name x px, iter, ifs, 0⟩] sc pos) 0 (.ref it) (.ref s.heap.objs.size) ((blk X sc x ys (closeL X.env.cells sc.names []) s3.heap.objs.size s3 (upd H s.heap.objs.size (.lst [])) fp)).env).onRaise (fun z => do { noteFrame z ((blk X sc x ys (closeL X.env.cells sc.names []) s3.heap.objs.size s3 (upd H s.heap.objs.size (.lst [])) fp)).env; theTreesLotGoes z })) _ _ s5
    refine wpAny_noted ?_
    rw [compTurn_is]
    refine wpAny_bind (wpAny_standAt ?_)
    by_cases hlt : i < ds.length
    · have hdr : ds.drop i = ds[i] :: ds.drop (i + 1) := List.drop_eq_getElem_cons hlt
      rw [hdr] at q5
      obtain ⟨hg, q5⟩ := q5
      have hinv := stay M5 H5 fr5 r5.mem hg
      refine wpAny_bind (thnF (T.item (blk X sc x ys (closeL X.env.cells sc.names []) s3.heap.objs.size s3 (upd H s.heap.objs.size (.lst [])) fp) rfl rfl rfl hc i [] s5 σ5 H5 (fun _ _ => False) I5 (fpX f5) st5 (hJ.go i H5 hlt hinv)) fun r6 s6 ⟨u, e6, h6⟩ => ?_)
      subst e6
      refine wpAny_bind (thnF h6 fun _ s7 ⟨v, H7, I7, rv, yl, st7, f7⟩ => ?_)
      obtain ⟨e7, d, hd1, hd2⟩ := hJ.yld i H5 v H7 hlt hinv yl
      subst e7
      have ed : d = ds[i] := Option.some.inj (hd1.symm.trans (List.getElem?_eq_getElem hlt))
      subst ed
      have I7' := I7.pinned (fpX f7) (T.obj _ _ st7)
      have lx : (relabel sc X.env).names.lookup x = some .local := lookup_relabel_local ck.loc
      refine wpAny_bind (thnF ((g_name (X := (blk X sc x ys (closeL X.env.cells sc.names []) s3.heap.objs.size s3 (upd H s.heap.objs.size (.lst [])) fp)) (i := 0) (x := x) (pos := px) ck.nd rfl (.inl lx) (.inr lx)).run _ s7 σ5 H7 (y5 :: frOf fs ρ) M5 v ds[i] u (fun ρ' M' => ρ' = some ds[i] :: frOf fs ρ ∧ M' = M5) I7' r5 rv hd2 ⟨rfl, rfl⟩) fun _ s8 ⟨σ8, H8, I8, ρ8, M8, fr8, r8, e8, e8'⟩ => ?_)
      subst e8 e8'
      obtain ⟨hD8, hM8⟩ := fr8 _ _ hM5 hD5
      refine wpAny_bind (thnF ((ht _ _ _ _ _).run _ s8 σ8 H8 _ M8 _ I8 r8 q5) fun b s9 ⟨H9, I9, M9, fr9, rm9, q9⟩ => ?_)
      obtain ⟨hD9, hM9⟩ := fr9 _ _ hM8 hD8
      have r9 := r8.go fr9 rm9
      have fr59 := (fr5.trans fr8).trans fr9
      have da9 : Dats X.K H9 acc ws := Dats.mono ((fr8.trans fr9).ext r5.mem) _ _ da5
      have next : ∀ {H' : Hp} {s' : Shared}, Inv (blk X sc x ys (closeL X.env.cells sc.names []) s3.heap.objs.size s3 (upd H s.heap.objs.size (.lst [])) fp) ([] ++ pinsAt fp s7.heap) σ8 H' s' → (tn (i + 1) s'.heap ∧ ∀ b ∈ fp, H' b = none) := fun {H' s'} I' => by
        have pin : ∀ b ∈ fp, ∀ o, s7.heap.get? b = some o → s'.heap.get? b = some o ∧ H' b = none := fun b hb o e => by
          have := I'.pin (b, o) (List.mem_append_right _ (List.mem_append_right _ (mem_pinsAt hb e)))
          exact ⟨this.1, this.2.1⟩
        refine ⟨T.keep _ _ _ st7 fun b hb o e => (pin b hb o e).1, fun b hb => ?_⟩
        obtain ⟨o, e, _⟩ := T.obj _ _ st7 b hb
        exact (pin b hb o e).2
      cases b with
      | false =>
        rw [if_neg Bool.false_ne_true]
        obtain ⟨n1, n2⟩ := next I9
        exact wpAny_pure ⟨rfl, ds.length - (i + 1), by omega, i + 1, acc, M9, rfl, hlt, ⟨σ8, H9, _, ws, I9.unpinned, n1, n2, r9, fr59, hD9, hM9, da9, by omega⟩, q9⟩
      | true =>
        rw [if_pos rfl]
        refine wpAny_bind (thnF ((he _ _ _ _ _).run _ s9 σ8 H9 _ M9 _ I9 r9 q9) fun u10 s10 ⟨v10, H10, I10, rv10, dy, M10, fr10, dd10, rm10, q10⟩ => ?_)
        obtain ⟨hD10, hM10⟩ := fr10 _ _ hM9 hD9
        have r10 := r9.go fr10 rm10
        have da10 : Dats X.K H10 acc ws := Dats.mono (fr10.ext r9.mem) _ _ da9
        have lw : ws.length < sizeLine := by rw [← da10.length]; omega
        refine wpAny_bind (thnF (mt_append (X := (blk X sc x ys (closeL X.env.cells sc.names []) s3.heap.objs.size s3 (upd H s.heap.objs.size (.lst [])) fp)) _ s10 σ8 H10 (.ref s.heap.objs.size) [v10] (.ref s.heap.objs.size) [u10] (fun _ H' => H' = upd H10 s.heap.objs.size (.lst (ws ++ [v10]))) I10 rfl (.cons rv10 .nil) ⟨_, ws, v10, rfl, rfl, hD10, lw, rfl⟩) fun _ s11 ⟨_, H11, I11, _, e11⟩ => ?_)
        subst e11
        have ex : Ext H10 (upd H10 s.heap.objs.size (.lst (ws ++ [v10]))) := Ext.writeL hD10
        have rm11 : RepM X.K (upd H10 s.heap.objs.size (.lst (ws ++ [v10]))) M10 := fun a o e => by
          cases o with
          | lst es =>
            obtain ⟨zs, e1, e2⟩ := rm10.lst e
            have na : a ≠ s.heap.objs.size := fun z => by rw [z, hM10] at e; cases e
            exact ⟨zs, by rw [upd_ne na]; exact e1, Dats.mono ex _ _ e2⟩
        have r11 : Rep X.K (upd H10 s.heap.objs.size (.lst (ws ++ [v10]))) σ8 (some ds[i] :: frOf fs ρ) M10 := ⟨fun j d e => let ⟨v, e1, e2⟩ := r10.env j d e; ⟨v, e1, Dat.mono ex _ _ e2⟩, r10.len, rm11⟩
        have fr11 : Fr M H M10 (upd H10 s.heap.objs.size (.lst (ws ++ [v10]))) := fun b o n e => by
          obtain ⟨e1, n1⟩ := (fr59.trans fr10) b o n e
          exact ⟨by rw [upd_ne (ne_of_none e fD)]; exact e1, n1⟩
        obtain ⟨n1, n2⟩ := next I11
        exact wpAny_pure ⟨rfl, ds.length - (i + 1), by omega, i + 1, acc ++ [dy], M10, rfl, hlt, ⟨σ8, _, _, ws ++ [v10], I11.unpinned, n1, n2, r11, fr11, upd_same, hM10, Dats.mono ex _ _ (da10.append (Dats.one dd10)), by simp; omega⟩, q10⟩
    · have ei : i = ds.length := by omega
      subst ei
      rw [List.drop_of_length_le (Nat.le_refl _)] at q5
      obtain ⟨hg, q5⟩ := q5
      have hinv := stay M5 H5 fr5 r5.mem hg
      refine wpAny_bind (thnF (T.done (blk X sc x ys (closeL X.env.cells sc.names []) s3.heap.objs.size s3 (upd H s.heap.objs.size (.lst [])) fp) rfl rfl rfl hc ds.length [] s5 σ5 H5 (fun _ _ => False) I5 (fpX f5) st5 (hJ.stop H5 hinv)) fun r6 s6 ⟨e6, I6⟩ => ?_)
      subst e6
      refine wpAny_pure ?_
      obtain ⟨m, hm, _⟩ := id I6.loc
      have I7 : Inv X pins σ H5 s6 := I3.call' (s' := s6) (ch := fp) I6.os I6.base I6.hok I6.bare fun b hb => ⟨(hf b hb).2.2.2.1, (hf b hb).2.1, (hf b hb).2.2.2.2.1, (hf b hb).2.2.2.2.2⟩
      refine fin _ _ s6 H5 I7 ⟨m, hm⟩ (I3.fpOk (Nat.le_refl _) I6.free) (Post.back fa ⟨.ref s.heap.objs.size, updM M5 s.heap.objs.size (.lst acc), fun b o n e => ?_, dat_ref.mpr rfl, fun a o e => ?_, q5 _ hM5⟩)
      · obtain ⟨e1, n1⟩ := fr5 b o n e
        exact ⟨e1, by rw [updM_ne (ne_of_none e fD)]; exact n1⟩
      · by_cases ha : a = s.heap.objs.size
        · subst ha
          rw [updM_same] at e
          cases e
          exact ⟨ws, hD5, da5⟩
        · rw [updM_ne ha] at e
          exact r5.mem a o e
  exact codeAny_compStart_list (loop _ rfl) (T.self X.A 0 _ _ _ st4 (loop _ rfl))
end
end L3
namespace L3
open PySem PySem.Spec PyProof.Rows L2
section
variable {X : Cx} {sc : Scope} {x : Str} {ys : List Str} {fs : List Nat} {elt iter : Expr} {px pos : Pos} {ifs : List Expr} {tt : TT3} {te : TE3} {ti : TE3}
def wLC (Q : DK) : List D → Mp → Prop := fun zs M2 => ∀ p, M2 p = none → Q (.ref p) (updM M2 p (.lst zs))
def RLC (X : Cx) (fs : List Nat) (tt : TT3) (te : TE3) (σ : St) (ρ : En) (M : Mp) (H : Hp) (Q : DK) : It → Hp → Prop := fun J H2 => ∃ M2 inv ds gd, Fr M H M2 H2 ∧ Rep X.K H2 σ ρ M2 ∧ ItIs X.K J inv ds ∧ ds.length < sizeLine ∧ (∀ M1 H1, Fr M2 H2 M1 H1 → RepM X.K H1 M1 → gd M1 → inv H1) ∧ runLC gd tt te (frOf fs ρ) (wLC Q) ds [] M2
theorem fin_val {pins : List (Addr × Obj)} {σ : St} {M : Mp} {H : Hp} {Q : DK} {E : Value → Shared → Prop} : ∀ (C Dl : Addr) (s6 : Shared) (H5 : Hp), Inv X pins σ H5 s6 → (∃ m, s6.heap.Ns C m) → FpOk X pins H5 C → Post X.K M H Q (.ref Dl) H5 →
    compPost (model X.prog X.w) X.A E none (EP X pins σ (Post X.K M H Q)) (.ref Dl) C (.ok .next) s6 := fun C Dl s6 H5 I ⟨m, hm⟩ f P =>
  ⟨m, hm, fun h' sb => ⟨.ref Dl, H5, I.turned (t' := s6.toks) (fun b o hb e => sb.extBut b o hb e) f.1 f.2.1 f.2.2.2.1 f.2.2.2.2.1 f.2.2.2.2.2, rfl, P⟩⟩
theorem lc_go {use : Option (Value → Sem Unit)} {Qs : Value → Shared → Prop} {ps : Pos} (hc : X.calm = true) (hk : compChk X.env.scope X.N sc x ys fs = true) (ht : ∀ cl C s0 H0 ex, PL3 (blk X sc x ys cl C s0 H0 ex) ifs tt) (he : ∀ cl C s0 H0 ex, PE3 (blk X sc x ys cl C s0 H0 ex) elt te)
    (hs : ∀ z, foldedSetIterable iter X.env z = pure z) {pins : List (Addr × Obj)} {s : Shared} {σ : St} {H : Hp} {ρ : En} {M : Mp} {Q : DK} (I : Inv X pins σ H s)
    (fin : ∀ (C Dl : Addr) (s6 : Shared) (H5 : Hp), Inv X pins σ H5 s6 → (∃ m, s6.heap.Ns C m) → FpOk X pins H5 C → Post X.K M H Q (.ref Dl) H5 → compPost (model X.prog X.w) X.A X.xe use Qs (.ref Dl) C (.ok .next) s6)
    (h : wpAny (model X.prog X.w) X.A (eval iter X.env) (fun v s1 => wpAny (model X.prog X.w) X.A (pyIter v) (PIE X pins σ (.Name x px) (RLC X fs tt te σ ρ M H Q)) X.xe s1) X.xe s) :
    wpAny (model X.prog X.w) X.A (comprehension (.ListComp elt [⟨.Name x px, iter, ifs, 0⟩] sc pos) sc X.env ps (newList []) false (eval iter X.env) use) Qs X.xe s := by
  have ck := CompOk.of hk
  refine wpAny_comprehension_free (use := use) (cl := closeL X.env.cells sc.names []) rfl hs (closure_is fun y hy z => I.ok.has y.1 (.inl (ck.fre y hy z))) ck.kind ck.names (thn h fun v s1 h1 => thn h1 fun itv s2 h2 => ?_)
  obtain ⟨it, fp, tn, J, H2, e, I2, T, st2, f2, M2, inv, ds, gd, fr, r2, hJ, hz, stay, q⟩ := h2
  subst e
  exact lc_core hc ck ht he fr fin I2 r2 T st2 f2 hJ hz stay q
structure PC3 (X : Cx) (sc : Scope) (x : Str) (px : Pos) (ys : List Str) (fs : List Nat) (iter : Expr) (ifs : List Expr) (elt : Expr) (t : TE3) : Prop where
  run : ∀ {use : Option (Value → Sem Unit)} {Qs : Value → Shared → Prop} {ps pos : Pos} {pins : List (Addr × Obj)} {s : Shared} {σ : St} {H : Hp} {ρ : En} {M : Mp} {Q : DK}, Inv X pins σ H s → Rep X.K H σ ρ M → t ρ M Q →
    (∀ (C Dl : Addr) (s6 : Shared) (H5 : Hp), Inv X pins σ H5 s6 → (∃ m, s6.heap.Ns C m) → FpOk X pins H5 C → Post X.K M H Q (.ref Dl) H5 → compPost (model X.prog X.w) X.A X.xe use Qs (.ref Dl) C (.ok .next) s6) →
    wpAny (model X.prog X.w) X.A (comprehension (.ListComp elt [⟨.Name x px, iter, ifs, 0⟩] sc pos) sc X.env ps (newList []) false (eval iter X.env) use) Qs X.xe s
theorem q_lc {t : TE3} (h : PC3 X sc x px ys fs iter ifs elt t) : PE3 X (.ListComp elt [⟨.Name x px, iter, ifs, 0⟩] sc pos) t := by
  constructor
  intro pins s σ H ρ M Q I r q
  rw [eval_ListComp]
  exact h.run I r q fin_val
theorem runLC_inv {gd : Mp → Prop} {fr : En} {Q : List D → Mp → Prop} {M : Mp} (Pv : Nat → List D → Mp → Prop) : ∀ (ds : List D), (∀ (i : Nat) (d : D) (acc : List D) (M : Mp) (N : List D → Mp → Prop), ds[i]? = some d → Pv i acc M → (∀ acc' M', Pv (i + 1) acc' M' → N acc' M') →
      gd M ∧ tt (some d :: fr) M fun b M1 => if b = true then te (some d :: fr) M1 fun y M2 => N (acc ++ [y]) M2 else N acc M1) →
    (∀ acc M, Pv ds.length acc M → gd M ∧ Q acc M) → Pv 0 [] M → runLC gd tt te fr Q ds [] M := by
  intro ds hstep hend h0
  have key : ∀ (zs : List D) (i : Nat) (acc : List D) (M : Mp), ds.drop i = zs → Pv i acc M → i ≤ ds.length → runLC gd tt te fr Q zs acc M := by
    intro zs
    induction zs with
    | nil =>
      intro i acc M e p hi
      have : ds.length ≤ i := by
        have := congrArg List.length e
        rw [List.length_drop] at this
        simp at this
        omega
      obtain rfl : i = ds.length := by omega
      exact hend acc M p
    | cons z zs ih =>
      intro i acc M e p hi
      have hx : ds[i]? = some z := by
        have := congrArg (fun l => l[0]?) e
        simpa using this
      have hlt : i < ds.length := (List.getElem?_eq_some_iff.mp hx).1
      refine hstep i z acc M _ hx p fun acc' M' p' => ih (i + 1) acc' M' ?_ p' hlt
      rw [← List.drop_drop, e]
      rfl
  exact key ds 0 [] M rfl h0 (Nat.zero_le _)
end
end L3
namespace L3
open PySem PySem.Spec PyProof.Rows L2
section
variable {X : Cx}
theorem eqDs_len {ds es : List D} (h : ds.length ≠ es.length) : eqDs ds es = false := by
  rw [eqDs_all, beq_eq_false_iff_ne.mpr h, Bool.and_false]
abbrev TO3 := En → Mp → (Option Int → Mp → Prop) → Prop
structure PO3 (X : Cx) (e : Option Expr) (t : TO3) : Prop where
  dn : ∃ t2 : TO, PO X e t2 ∧ ∀ σ H ρ M Q Q', Rep X.K H σ ρ M → t ρ M Q → (∀ o H' M', Fr M H M' H' → Rep X.K H' σ ρ M' → Q o M' → Q' o H') → t2 σ H Q'
def tNo3 : TO3 := fun _ M Q => Q none M
def tPart3 (t : TE3) : TO3 := fun ρ M Q => t ρ M fun d M1 => ∃ i, d = .int i ∧ Q (some i) M1
theorem p_no : PO3 X none tNo3 := ⟨tNoPart, po_none, fun σ H ρ M Q Q' r q k => k none H M (.refl _ _) r q⟩
theorem p_some {e : Expr} {t : TE3} (h : PE3 X e t) : PO3 X (some e) (tPart3 t) := ⟨tPart (L3.dn X.K t), po_some h.dn, fun σ H ρ M Q Q' r q k => dn_of r q fun v H' d M' f dv r' ⟨i, e1, q⟩ => by
  subst e1
  obtain rfl := dat_int.mp dv
  exact ⟨i, rfl, k (some i) H' M' f r' q⟩⟩
theorem Dats.drop {K : PySem.W.Frag} {H : Hp} : ∀ {ds : List D} {xs : List V} (n : Nat), Dats K H ds xs → Dats K H (ds.drop n) (xs.drop n)
  | ds, xs, 0, h => h
  | [], xs, n + 1, h => by rw [dats_nil.mp h]; exact dats_nil.mpr rfl
  | d :: ds, xs, n + 1, h => by
    obtain ⟨v, vs, rfl, _, h2⟩ := dats_cons.mp h
    exact Dats.drop n h2
theorem Dats.take {K : PySem.W.Frag} {H : Hp} : ∀ {ds : List D} {xs : List V} (n : Nat), Dats K H ds xs → Dats K H (ds.take n) (xs.take n)
  | ds, xs, 0, h => dats_nil.mpr rfl
  | [], xs, n + 1, h => by rw [dats_nil.mp h]; exact dats_nil.mpr rfl
  | d :: ds, xs, n + 1, h => by
    obtain ⟨v, vs, rfl, h1, h2⟩ := dats_cons.mp h
    exact dats_cons.mpr ⟨v, vs.take n, rfl, h1, Dats.take n h2⟩
theorem Dats.rep {K : PySem.W.Frag} {H : Hp} {ds : List D} {xs : List V} (h : Dats K H ds xs) : ∀ k : Nat, Dats K H (List.replicate k ds).flatten (List.replicate k xs).flatten
  | 0 => dats_nil.mpr rfl
  | k + 1 => by
    rw [List.replicate_succ, List.replicate_succ, List.flatten_cons, List.flatten_cons]
    exact h.append (Dats.rep h k)
end
end L3
namespace L3
open PySem PySem.Spec PyProof.Rows L2
section
variable {X : Cx}
def Lst (M : Mp) (d : D) (xs : List D) : Prop := d = .frl xs ∨ ∃ a, d = .ref a ∧ M a = some (.lst xs)
theorem Lst.of {M : Mp} {a : Addr} {xs : List D} (h : M a = some (.lst xs)) : Lst M (.ref a) xs := .inr ⟨a, rfl, h⟩
theorem Lst.sq {K : PySem.W.Frag} {H : Hp} {M : Mp} {d : D} {xs : List D} {x : V} (h : Lst M d xs) (rm : RepM K H M) (dx : Dat K H d x) : ∃ a zs, x = .ref a ∧ SqL K H a zs ∧ Dats K H xs zs := by
  rcases h with rfl | ⟨a, rfl, hM⟩
  · obtain ⟨a, zs, rfl, h1, h2⟩ := dat_frl.mp dx
    exact ⟨a, zs, rfl, h1.sq, h2⟩
  · obtain rfl := dat_ref.mp dx
    obtain ⟨zs, h1, h2⟩ := rm.lst hM
    exact ⟨a, zs, rfl, SqL.of h1, h2⟩
def rNeLL : R3 := fun d e M Q => ∃ xs ys, Lst M d xs ∧ Lst M e ys ∧ xs.all (plain 9) = true ∧ ys.all (plain 9) = true ∧ Q (.bl (!eqDs xs ys)) M
theorem o_neLL (hu : X.A.units + 64 < cLine) : Op3 X (compareOp .NotEq) rNeLL := by
  constructor
  intro pins s σ H M x y d e v u Q I rm rx ry dx dy ⟨xs, ys, ha, hb, pa, pb, q⟩
  obtain ⟨a, zs, rfl, h1, h2⟩ := ha.sq rm dx
  obtain ⟨b, ws, rfl, h3, h4⟩ := hb.sq rm dy
  obtain rfl : v = Value.ref a := rx
  obtain rfl : u = Value.ref b := ry
  obtain ⟨its, rv, pl, hz⟩ := I.list h1
  obtain ⟨its2, rv2, pl2, hz2⟩ := I.list h3
  have l1 := h2.length.trans rv.length
  have l2 := h4.length.trans rv2.length
  have fin : ∀ k, k = (!eqDs xs ys) → EP X pins σ (Post X.K M H Q) (.bool k) s := fun k e => ⟨.bl k, H, I, rfl, post_self rm (dat_bl.mpr rfl) (by rw [e]; exact q)⟩
  by_cases hs : its.toArray.size = its2.toArray.size
  · refine SeqAt.RcNeAt.lists (A := X.A) (s := s) (e := fun j => eqD (xs.getD j .non) (ys.getD j .non)) pl.isList pl2.isList hs (by omega) (parts_eq I.hok (n := 9) (by show X.A.units + 1 + 9 < cLine; omega) pa pb h2 h4 rv rv2) _ _ _ _ (fin _ ?_)
    simp only [List.size_toArray] at hs
    rw [eqDs_all, List.size_toArray, ← l1]
    have e : ys.length = xs.length := by omega
    rw [e, Nat.min_self, beq_self_eq_true, Bool.and_true]
  · refine SeqAt.RcNeAt.lists_lengths (A := X.A) (s := s) pl.isList pl2.isList (by simpa using hs) (by omega) _ _ _ _ (fin _ ?_)
    simp only [List.size_toArray] at hs
    rw [eqDs_len (by omega)]
    rfl
def isNonD : D → Bool | .non => true | _ => false
def rIsN : R3 := fun d e M Q => e = .non ∧ Q (.bl (isNonD d)) M
theorem isNon_dat {K : PySem.W.Frag} {H : Hp} {d : D} {x : V} (h : Dat K H d x) : decide (x = .non) = isNonD d := by
  cases d with
  | non => obtain rfl := dat_non.mp h; rfl
  | bl b => obtain rfl := dat_bl.mp h; rfl
  | int i => obtain rfl := dat_int.mp h; rfl
  | str z => obtain rfl := dat_str.mp h; rfl
  | ty n => obtain rfl := dat_ty.mp h; rfl
  | ref a => obtain rfl := dat_ref.mp h; rfl
  | tup ds => obtain ⟨a, xs, rfl, _⟩ := dat_tup.mp h; rfl
  | frl ds => obtain ⟨a, xs, rfl, _⟩ := dat_frl.mp h; rfl
  | thg n => obtain ⟨a, o, u, rfl, _⟩ := dat_thg.mp h; rfl
  | exc C nm ds => obtain ⟨a, o, u, xs, rfl, _⟩ := dat_exc.mp h; rfl
theorem o_isN : Op3 X (compareOp .Is) rIsN := op3 op_isN fun H M x y d e Q rm dx dy ⟨e1, q⟩ => by
  subst e1
  exact ⟨dat_non.mp dy, by rw [isNon_dat dx]; exact post_self rm (dat_bl.mpr rfl) q⟩
end
end L3
namespace L2
open PySem PySem.Spec PyProof.Rows
def XcN (g : Heap) (H : Hp) (h : Heap) (e : Addr) (cls : Value) : Prop :=
  g.get? e = none ∧ H e = none ∧ ∃ oe vs, h.get? e = some oe ∧ (oe.cls = cls ∧ oe.dict = none) ∧ oe.data = .fields vs ∧ vs[1]? = some .none
def XcT (g : Heap) (H : Hp) (h : Heap) (e : Addr) (cls fl : Value) : Prop :=
  g.get? e = none ∧ H e = none ∧ ∃ oe vs T oT ts, h.get? e = some oe ∧ (oe.cls = cls ∧ oe.dict = none) ∧ oe.data = .fields vs ∧ vs[1]? = some (.ref T) ∧ g.get? T = none ∧ H T = none ∧ T ≠ e ∧ h.get? T = some oT ∧ oT.data = .fields ts ∧ ts[3]? = some fl
def XcAt (g : Heap) (H : Hp) (h : Heap) (e : Addr) (cls : Value) : Prop := XcN g H h e cls ∨ XcT g H h e cls .none
theorem XcAt.there {g h : Heap} {H : Hp} {e : Addr} {cls : Value} (x : XcAt g H h e cls) : ∃ oe, h.get? e = some oe ∧ (oe.cls = cls ∧ oe.dict = none) ∧ ∃ vs, oe.data = .fields vs := by
  rcases x with ⟨_, _, oe, vs, h1, h2, h3, _⟩ | ⟨_, _, oe, vs, _, _, _, h1, h2, h3, _⟩
  · exact ⟨oe, h1, h2, vs, h3⟩
  · exact ⟨oe, h1, h2, vs, h3⟩
theorem XcAt.new {g h : Heap} {H : Hp} {e : Addr} {cls : Value} (x : XcAt g H h e cls) : g.get? e = none ∧ H e = none := by
  rcases x with ⟨a, b, _⟩ | ⟨a, b, _⟩ <;> exact ⟨a, b⟩
theorem XcAt.ahead {g g' h : Heap} {H : Hp} {e : Addr} {cls : Value} (x : XcAt g H h e cls) (k : ∀ b o, g'.get? b = some o → ∃ o', g.get? b = some o') : XcAt g' H h e cls := by
  have no : ∀ b, g.get? b = none → g'.get? b = none := fun b n => by
    cases q : g'.get? b with
    | none => rfl
    | some o => obtain ⟨o', e'⟩ := k b o q; rw [n] at e'; cases e'
  rcases x with ⟨a, b, c⟩ | ⟨a, b, oe, vs, T, oT, ts, h1, h2, h3, h4, h5, r⟩
  · exact .inl ⟨no _ a, b, c⟩
  · exact .inr ⟨no _ a, b, oe, vs, T, oT, ts, h1, h2, h3, h4, no _ h5, r⟩
structure Stm (g : Heap) (H : Hp) (S : List Addr) (h h' : Heap) : Prop where
  keep : ∀ b o, h.get? b = some o → b ∉ S → (H b ≠ none ∨ g.get? b ≠ none) → h'.get? b = some o
  slot : ∀ b o, h.get? b = some o → (H b ≠ none ∨ g.get? b ≠ none) → ∃ sl, h'.get? b = some { o with slots := sl }
  there : ∀ b o, h.get? b = some o → ∃ o', h'.get? b = some o'
theorem Stm.trans {g h h1 h2 : Heap} {H : Hp} {S : List Addr} (a : Stm g H S h h1) (b : Stm g H S h1 h2) : Stm g H S h h2 where
  keep := fun c o q n k => b.keep c o (a.keep c o q n k) n k
  slot := fun c o q k => by
    obtain ⟨sl, e⟩ := a.slot c o q k
    obtain ⟨sl', e'⟩ := b.slot c _ e k
    exact ⟨sl', e'⟩
  there := fun c o q => by
    obtain ⟨o', e⟩ := a.there c o q
    exact b.there c o' e
theorem Stm.upd1 {g h : Heap} {H : Hp} {S : List Addr} {x : Addr} {f : Obj → Obj} (h1 : g.get? x = none) (h2 : H x = none) {o : Obj} (ho : h.get? x = some o) (hf : (f o).isFreed = false) : Stm g H S h (h.update x f) := by
  have ne : ∀ b, (H b ≠ none ∨ g.get? b ≠ none) → x ≠ b := fun b k z => by
    subst z
    rcases k with k | k
    · exact k h2
    · exact k h1
  refine ⟨fun b u q _ k => by rw [Heap.get?_update_other _ _ (ne b k)]; exact q, fun b u q k => ⟨u.slots, by rw [Heap.get?_update_other _ _ (ne b k)]; exact q⟩, fun b u q => ?_⟩
  by_cases hb : x = b
  · subst hb
    exact ⟨_, Heap.get?_update_self _ ho hf⟩
  · exact ⟨u, by rw [Heap.get?_update_other _ _ hb]; exact q⟩
theorem Stm.kept {g h h' : Heap} {H : Hp} {S : List Addr} (k : ∀ b u, h.get? b = some u → h'.get? b = some u) : Stm g H S h h' :=
  ⟨fun b o q _ _ => k b o q, fun b o q _ => ⟨o.slots, k b o q⟩, fun b o q => ⟨o, k b o q⟩⟩
theorem Stm.slots {g h h' : Heap} {H : Hp} {S : List Addr} (x : Heap.SlotsOnly S h h') : Stm g H S h h' :=
  ⟨fun b o q n _ => by rw [x.2.1 b n]; exact q, fun b o q _ => x.2.2 b o q, fun b o q => let ⟨_, e⟩ := x.2.2 b o q; ⟨_, e⟩⟩
theorem dict_mapF (f : Array Value → Array Value) (o : Obj) : (o.mapFields f).dict = o.dict := by
  obtain ⟨c, d, dt, sl⟩ := o
  cases dt <;> rfl
section
variable {M : Model} {A : Around} {E : Value → Shared → Prop} {s : Shared}
theorem entry_xc {g base : Heap} {H : Hp} {env : Env} {outer : List Env} {L e : Addr} {oe : Obj} {vs : Array Value} {head : Value} {hadNext : Bool} {Q : Unit → Shared → Prop}
    (hfr : A.frames = some (env :: outer)) (hl : s.heap.FunFrames base (env :: outer)) (hf : env.frame = some L)
    (ge : g.get? e = none) (He : H e = none) (hdn : oe.dict = none) (he : s.heap.get? e = some oe) (hd : oe.data = .fields vs) (hsz : 1 < vs.size)
    (gk : ∀ b o, g.get? b = some o → ∃ o', s.heap.get? b = some o') (Hk : ∀ b, s.heap.objs.size ≤ b → H b = none)
    (h : ∀ h', Stm g H (frs (env :: outer)) s.heap h' → XcT g H h' e oe.cls (rawInt L) → Q () { s with heap := h' }) :
    wpAny M A (do let a ← frameOf env; let pl ← entryPlaceOf L hadNext; let b ← EntryCells.newEntry head a .none (rawInt L) .none pl; setField (.ref e) 1 b) Q E s := by
  have hene : e ∉ (env :: outer).filterMap (·.frame) := fun hm => by
    obtain ⟨_, o, ho, hnf⟩ := hl.mem hm
    rw [he] at ho; injection ho with ho; subst ho; exact hnf vs hd
  refine wpAny_bind (wpAny_frameOf_fun hfr hl hf fun h₁ hs₁ => ?_)
  refine wpAny_bind (wpAny_entryPlaceOf fun pl hpl => ?_)
  unfold EntryCells.newEntry newFields
  refine wpAny_bind (wpAny_newObj_type ?_ (hpl.sizeOk5 _ _ _ _ _))
  have he₁ : h₁.get? e = some oe := (hs₁.2.1 e hene).trans he
  have he₂ := Heap.get?_push_of_some (h := h₁) { cls := .type "traceback", dict := none, data := .fields ([head, .ref L, .none, rawInt L, .none] ++ (if pl.isEmpty then List.replicate 6 Value.none else pl)).toArray } he₁
  refine wpAny_setField he₂ hd hsz (h _ ?_ ?_)
  · refine (Stm.slots hs₁).trans ((Stm.kept fun b u q => Heap.get?_push_of_some _ q).trans (Stm.upd1 ge He he₂ (Obj.isFreed_of_fields (Obj.data_mapFields hd _))))
  · have hTe : h₁.objs.size ≠ e := Nat.ne_of_gt (Heap.lt_size he₁)
    have hd₃ := Obj.data_mapFields hd (·.setIfInBounds 1 (Value.ref h₁.objs.size))
    have he₃ := Heap.get?_update_self (Obj.mapFields (·.setIfInBounds 1 (Value.ref h₁.objs.size))) he₂ (Obj.isFreed_of_fields hd₃)
    have hT₃ := (Heap.get?_update_other (h₁.push { cls := .type "traceback", dict := none, data := .fields ([head, .ref L, .none, rawInt L, .none] ++ (if pl.isEmpty then List.replicate 6 Value.none else pl)).toArray })
      (Obj.mapFields (·.setIfInBounds 1 (Value.ref h₁.objs.size))) (Ne.symm hTe)).trans (Heap.get?_push_size h₁ rfl)
    have gT : g.get? h₁.objs.size = none := by
      cases q : g.get? h₁.objs.size with
      | none => rfl
      | some o =>
        obtain ⟨o', e'⟩ := gk _ o q
        have := Heap.lt_size e'
        rw [hs₁.1] at this
        exact absurd this (Nat.lt_irrefl _)
    exact ⟨ge, He, _, _, h₁.objs.size, _, _, he₃, ⟨Obj.cls_mapFields _ _, (dict_mapF _ _).trans hdn⟩, hd₃, by simp [hsz], gT, Hk _ (Nat.le_of_eq hs₁.1.symm), hTe, hT₃, rfl, by first | (simp; done) | (rcases hpl with rfl | ⟨_, _, _, _, _, _, _, rfl⟩ <;> simp)⟩
theorem note_xc {g base : Heap} {H : Hp} {env : Env} {outer : List Env} {L e : Addr} {cls : Value} {Q : Unit → Shared → Prop}
    (hfr : A.frames = some (env :: outer)) (hl : s.heap.FunFrames base (env :: outer)) (hf : env.frame = some L) (hx : XcAt g H s.heap e cls)
    (gk : ∀ b o, g.get? b = some o → ∃ o', s.heap.get? b = some o') (Hk : ∀ b, s.heap.objs.size ≤ b → H b = none)
    (h : ∀ h', Stm g H (frs (env :: outer)) s.heap h' → XcT g H h' e cls (rawInt L) → Q () { s with heap := h' }) : wpAny M A (noteFrame (.ref e) env) Q E s := by
  rcases hx with ⟨ge, He, oe, vs, he, ⟨hcls, hdn⟩, hd, h1⟩ | ⟨ge, He, oe, vs, T, oT, ts, he, ⟨hcls, hdn⟩, hd, h1, gT, HT, hTe, hT, hdT, h3⟩
  · subst hcls
    unfold noteFrame
    simp only [hf]
    refine wpAny_bind (wpAny_field he hd h1 ?_)
    rw [if_neg (by decide)]
    exact entry_xc hfr hl hf ge He hdn he hd (Array.getElem?_eq_some_iff.mp h1).1 gk Hk h
  · subst hcls
    unfold noteFrame
    simp only [hf]
    refine wpAny_bind (wpAny_field he hd h1 ?_)
    rw [if_pos (show (Value.ref T != Value.none) = true from by simp)]
    refine wpAny_bind (wpAny_field hT hdT h3 ?_)
    rw [if_neg (show ¬ ((Value.none == rawInt L) = true) from by simp [rawInt])]
    refine wpAny_bind (wpAny_setField hT hdT (Array.getElem?_eq_some_iff.mp h3).1 ?_)
    have other : ∀ b, b ≠ T → (s.heap.update T (Obj.mapFields (·.setIfInBounds 3 Value.none))).get? b = s.heap.get? b := fun b hb => Heap.get?_update_other _ _ (Ne.symm hb)
    have noRecord : ∀ b o, s.heap.get? b = some o → (∀ vs, o.data ≠ .fields vs) → b ≠ T := fun b o hb hnf q => by
      rw [q, hT] at hb; injection hb with hb; subst hb; exact hnf ts hdT
    have st : Stm g H (frs (env :: outer)) s.heap (s.heap.update T (Obj.mapFields (·.setIfInBounds 3 Value.none))) := Stm.upd1 gT HT hT (Obj.isFreed_of_fields (Obj.data_mapFields hdT _))
    refine entry_xc hfr (hl.of_keeps fun b o hb hnf => ⟨o, (other b (noRecord b o hb hnf)).trans hb, rfl⟩) hf ge He hdn ((other e (Ne.symm hTe)).trans he) hd (Array.getElem?_eq_some_iff.mp h1).1
      (fun b o q => let ⟨o', e'⟩ := gk b o q; st.there b o' e') (fun b hb => Hk b (by rw [← Heap.size_after_update]; exact hb)) fun h' a b => h h' (st.trans a) b
theorem land_xc {g : Heap} {H : Hp} {S : List Addr} {e : Addr} {cls fl : Value} {Q : Unit → Shared → Prop} (hx : XcT g H s.heap e cls fl)
    (h : ∀ h', Stm g H S s.heap h' → XcT g H h' e cls .none → Q () { s with heap := h' }) : wpAny M A (setFlight (.ref e) none) Q E s := by
  obtain ⟨ge, He, oe, vs, T, oT, ts, he, hcls, hd, h1, gT, HT, hTe, hT, hdT, h3⟩ := hx
  have hsz3 : 3 < ts.size := (Array.getElem?_eq_some_iff.mp h3).1
  unfold setFlight
  refine wpAny_bind (wpAny_field he hd h1 ?_)
  rw [if_pos (show (Value.ref T != Value.none) = true from by simp)]
  refine wpAny_setField hT hdT hsz3 (h _ (Stm.upd1 gT HT hT (Obj.isFreed_of_fields (Obj.data_mapFields hdT _))) ?_)
  exact ⟨ge, He, oe, vs, T, _, _, (Heap.get?_update_other _ _ hTe).trans he, hcls, hd, h1, gT, HT, hTe, Heap.get?_update_self _ hT (Obj.isFreed_of_fields (Obj.data_mapFields hdT _)), Obj.data_mapFields hdT _, by simp [hsz3]⟩
theorem leave_xc {g base : Heap} {H : Hp} {env : Env} {outer : List Env} {L e : Addr} {cls : Value} {Q : Unit → Shared → Prop}
    (hfr : A.frames = some (env :: outer)) (hl : s.heap.FunFrames base (env :: outer)) (hf : env.frame = some L) (hx : XcAt g H s.heap e cls)
    (gk : ∀ b o, g.get? b = some o → ∃ o', s.heap.get? b = some o') (Hk : ∀ b, s.heap.objs.size ≤ b → H b = none)
    (h : ∀ h', Stm g H (frs (env :: outer)) s.heap h' → XcT g H h' e cls .none → Q () { s with heap := h' }) : wpAny M A (leaving env (.ref e)) Q E s := by
  unfold leaving
  refine wpAny_bind (note_xc hfr hl hf hx gk Hk fun h1 st1 x1 => ?_)
  exact land_xc (s := { s with heap := h1 }) x1 fun h2 st2 x2 => h h2 (st1.trans st2) x2
end
theorem HOk.stm {P : Program} {w : World} {g h h' : Heap} {H : Hp} {S : List Addr} (x : HOk P w H h) (st : Stm g H S h h') (hS : ∀ b ∈ S, H b = none) : HOk P w H h' := fun a o e =>
  (x a o e).stay (fun b u hb q => by
    have hn : H b ≠ none := by
      rcases hb with rfl | hb
      · rw [e]; simp
      · rw [hb]; simp
    exact st.keep b u q (fun z => hn (hS b z)) (.inl hn)) (fun _ r => r) fun _ _ r => r
theorem Un.stm {fs S : List Addr} {h h1 h' : Heap} {H H1 : Hp} (u : Un fs [] H H1 h h1) (st : Stm h H1 S h1 h') (hS : ∀ b o, h.get? b = some o → b ∈ S → b ∈ fs) : Un fs [] H H1 h h' where
  keep := fun b o q n hb _ => st.keep b o (u.keep b o q n hb (by simp)) (fun z => hb (hS b o q z)) (.inr (by rw [q]; simp))
  slot := fun b o q n hb _ => by
    obtain ⟨sl, e⟩ := u.slot b o q n hb (by simp)
    obtain ⟨sl', e'⟩ := st.slot b _ e (.inr (by rw [q]; simp))
    exact ⟨sl', e'⟩
  free := u.free
  there := fun b o q _ => by
    obtain ⟨o', e⟩ := u.there b o q (by simp)
    exact st.there b o' e
  tups := u.tups
  frzs := u.frzs
  tbls := u.tbls
end L2
namespace L2
open PySem PySem.Spec PyProof.Rows PySem.W
structure XCls (K : PySem.W.Frag) (C : Addr) : Prop where
  ga : findIn K (.ref C) "__getattribute__" = some (some (.builtin "BaseException.__getattribute__"))
  gt : findIn K (.ref C) "__getattr__" = some none
  cl : findIn K (.ref C) "__class__" = some (some (.builtin "object.__class__"))
  sb : subIn K (.ref C) (.type "BaseException") = some true
  mo : mroIn K C (.type "object") = some true
  is : (clsIn K C).isSome = true
section
variable {prog : Program} {w : World} {A : Around} {E : Value → Shared → Prop} {h : Heap} {g : Array GenState} {d : Drawn} {t : Nat} {os : OsState} {a : Addr} {o : Obj} {K : PySem.W.Frag} {C : Addr}
theorem tl_K {M : Model} {v : Value} {n : Str} {r : Option Value} {Q : Option Value → Shared → Prop} (X : K.In h) (e : findIn K v n = some r) (hq : Q r ⟨h, g, d, t, os⟩) : wpAny M A (typeLookup v n) Q E ⟨h, g, d, t, os⟩ := (looks_findIn X e).at hq
theorem sub_K {M : Model} {v u : Value} {r : Bool} {Q : Bool → Shared → Prop} (X : K.In h) (e : subIn K v u = some r) (hq : Q r ⟨h, g, d, t, os⟩) : wpAny M A (isSubtype v u) Q E ⟨h, g, d, t, os⟩ := (looks_subIn X e).at hq
theorem xc_check {M : Model} {nameV : Value} {Q : Unit → Shared → Prop} (X : K.In h) (Z : XCls K C) (hx : h.get? a = some o) (hc : o.cls = .ref C) (hq : Q () ⟨h, g, d, t, os⟩) :
    wpAny M A (checkBuiltinCall "BaseException.__getattribute__" ⟨[.ref a, nameV], []⟩) Q E ⟨h, g, d, t, os⟩ := by
  have hk : builtinKind "BaseException.__getattribute__" = some .slot := by decide +kernel
  have hsplit : splitId "BaseException.__getattribute__" = some ("BaseException", "__getattribute__") := by decide +kernel
  have ha := F.args_bexc_ga (.ref a) nameV
  simp only [checkBuiltinCall, hk, hsplit]
  refine wpAny_bind ?_
  · unfold isInstance
    repeat (first | (with_reducible refine wpAny_loadPart_at hx ?_; rw [hc]) | with_reducible refine sub_K X Z.sb ?_ | wp_step)
    exact hq
theorem xc_entry {tk : Tok} {Q : Fin → Shared → Prop} (X : K.In h) (Z : XCls K C) (I : InstAt h a o C none) (hq : Q (.done (.ret (.ref C))) ⟨h, g, d, t, os⟩) :
    wpAny (model prog w) A (Builtin.«object.__getattribute__» ⟨[.ref a, .str "__class__" tk], []⟩) Q E ⟨h, g, d, t, os⟩ := by
  have hx := I.at_
  have hc := I.cls
  have hT5 : (⟨h, g, d, t, os⟩ : Shared).TypeIs (.builtin "object.__class__") "getset_descriptor" := F.typeOf_object_class
  have f5 := F.typeOf_object_class
  have f6 := F.slot_gs_get.lookup
  have f7 := F.slot_gs_set.lookup
  repeat (any_goals (first | assumption | (with_reducible refine wpAny_loadPart_at hx ?_; rw [hc]) | with_reducible refine tl_K X Z.cl ?_ | wp_step))
  refine class_get (s := ⟨h, g, d, t, os⟩) X I Z.mo ?_
  repeat (any_goals (first | assumption | wp_step))
theorem xc_call {tk : Tok} {R : Result → Shared → Prop} (X : K.In h) (Z : XCls K C) (I : InstAt h a o C none) (hq : R (.ok (.ret (.ref C))) ⟨h, g, d, t, os⟩) :
    codeAny (model prog w) A (.call (.builtin "BaseException.__getattribute__") ⟨[.ref a, .str "__class__" tk], []⟩) R ⟨h, g, d, t, os⟩ :=
  codeAny_call_builtin F.attr_ValueError.ga.plain F.entry_bexc_ga (xc_check X Z I.at_ I.cls (xc_entry X Z I hq))
theorem xc_by {tk : Tok} {fill expr : Bool} {Q : Value → Shared → Prop} (X : K.In h) (Z : XCls K C) (I : InstAt h a o C none) (hq : Q (.ref C) ⟨h, g, d, t, os⟩) :
    wpAny (model prog w) A (getAttrBy (.ref a) (.str "__class__" tk) fill expr) Q E ⟨h, g, d, t, os⟩ := by
  have hx := I.at_
  have hc := I.cls
  have f3 := F.attr_ValueError.ga.bind (.ref a)
  have hx0 : (expr && onTheHeap (Value.builtin "BaseException.__getattribute__")) = false := by cases expr <;> rfl
  have hx2 : (Value.builtin "BaseException.__getattribute__" == Value.builtin "object.__getattribute__") = false := by decide +kernel
  have hx1 : (onTheHeap (Value.ref C) && Value.builtin "BaseException.__getattribute__" == Value.builtin "object.__getattribute__") = false := by rw [hx2]; rfl
  repeat (any_goals (first | assumption | (with_reducible refine wpAny_loadPart_at hx ?_; rw [hc]) | with_reducible refine tl_K X Z.ga ?_ | with_reducible refine tl_K X Z.gt ?_ | wp_step))
  refine xc_call X Z I ?_
  repeat (any_goals (first | assumption | wp_step))
theorem xc_attr {Q : Option Value → Shared → Prop} (X : K.In h) (Z : XCls K C) (I : InstAt h a o C none) (hq : Q (some (.ref C)) ⟨h, g, d, t + 1, os⟩) : wpAny (model prog w) A (getAttr? (.ref a) "__class__") Q E ⟨h, g, d, t, os⟩ := by
  unfold getAttr? getAttrBy?
  repeat (any_goals (first | assumption | with_reducible apply xc_by X Z I | wp_step))
theorem kitx_exc (Z : XCls K C) : KitX K (.ref a) (.ref C) (fun h => ∃ o, InstAt h a o C none) where
  ty := fun _ _ _ ⟨_, I⟩ => I.type
  it := fun _ _ X _ => by
    have hcD := Z.is
    unfold clsIn at hcD
    split at hcD
    · rename_i c' d' cd' sl' ho
      intro A' Q' E' s' k q
      unfold isType loadHead
      exact wpAny_bind (wpAny_loadPart (k _ _ (X _ _ ho)) (wpAny_pure q))
    · cases hcD
  ne := fun h tp dd its n sl X htp => by
    refine Bool.eq_false_iff.mpr fun q => ?_
    have e : C = tp := Value.ref.inj (beq_iff_eq.mp q)
    subst e
    have hcD := Z.is
    unfold clsIn at hcD
    split at hcD
    · rename_i c' d' cd' sl' ho
      have z := (X _ _ ho).symm.trans htp
      cases z
    · cases hcD
  ca := fun {_ _ _ _ _ s} X ⟨_, I⟩ k => by obtain ⟨h, g, d, t, os⟩ := s; exact xc_attr X Z I k
end
end L2
namespace L3
open PySem PySem.Spec PyProof.Rows L2
abbrev bmVE : List Value := [.type "ValueError", .type "Exception", .type "BaseException", .type "object"]
structure XC (K : PySem.W.Frag) (C : Addr) : Prop extends XCls K C where
  ex : PySem.W.excIn K C bmVE "ValueError.__new__" = true
theorem exc_obj {K : PySem.W.Frag} {h : Heap} {C : Addr} {bmB : List Value} {newId : String} (X : K.In h) (q : PySem.W.excIn K C bmB newId = true) :
    ∃ bm N nm q bs hdct sn sub ab col dd k0 k1 k2 k3 k5 mN, h.get? C = some (excClassObj nm q C N bs bm hdct sn sub ab col dd k0 k1 k2 k3 k5 newId) ∧ h.Ns N mN ∧ mN "__init__" = none ∧ OwnTail h bmB bm := by
  unfold PySem.W.excIn at q
  split at q
  · rename_i dd cd sl ho
    split at q
    · rename_i C' bm k0 k1 k2 k3 n k5 hm hs
      simp only [Bool.and_eq_true, beq_iff_eq, Bool.not_eq_true'] at q
      obtain ⟨⟨⟨⟨⟨rfl, rfl⟩, hdel⟩, ht⟩, hok⟩, hni⟩ := q
      obtain ⟨nm, bs, mro, ns, qn, hd, sn, sub, ab, col, del⟩ := cd
      dsimp only at hm hdel hok hni
      subst hm hdel
      have hsl : sl = #[k0, k1, k2, k3, some (.builtin n), k5] := by
        obtain ⟨l⟩ := sl
        simp only at hs
        rw [hs]
      subst hsl
      exact ⟨bm, ns, nm, qn, bs, hd, sn, sub, ab, col, dd, k0, k1, k2, k3, k5, _, X _ _ ho, .of_isNs (PySem.W.isNs_of_in X hok), PySem.W.nsMap_none_of_in X hok hni, PySem.W.tail_of_in X ht⟩
    · cases q
  · cases q
theorem obj_got {P : Program} {w : World} {H : Hp} {h : Heap} {a : Addr} {o : HO} (x : ObjOk P w H h a o) : ∃ u, h.get? a = some u := by
  cases o with
  | lst xs => obtain ⟨_, _, _, _, e⟩ := x; exact ⟨_, e⟩
  | tup xs => obtain ⟨_, _, _, o, e, _⟩ := x; exact ⟨_, e⟩
  | dK kvs => obtain ⟨_, _, _, _, o, _, _, e, _⟩ := x; exact ⟨_, e⟩
  | dT kvs => obtain ⟨_, _, _, _, o, _, _, e, _⟩ := x; exact ⟨_, e⟩
  | set S n => obtain ⟨o, _, _, _, e, _⟩ := x; exact ⟨_, e⟩
  | ins C dx fs => obtain ⟨_, _, _, e, _⟩ := x; exact ⟨_, e⟩
  | own y => exact x
  | xd fs => obtain ⟨_, ⟨_, _, _, e, _⟩, _⟩ := x; exact ⟨_, e⟩
  | rng lo hi => obtain ⟨_, _, _, e⟩ := x; exact ⟨_, e⟩
  | frz ob u => obtain ⟨e, _⟩ := x; exact ⟨_, e⟩
  | tbl ps => exact ⟨_, (show h.get? a = some _ from x)⟩
  | met f y => exact ⟨_, (show h.get? a = some _ from x)⟩
  | ext φ => obtain ⟨_, e, _⟩ := x; exact e
def CXx (P : Program) (w : World) : CXT := fun outer H s E e s' => ∃ a C H', e = .ref a ∧ s'.os = s.os ∧ AllBare s'.gens ∧ Un (frs outer) [] H H' s.heap s'.heap ∧ HOk P w H' s'.heap ∧ XcAt s.heap H' s'.heap a (.ref C) ∧ E (.ref C) none H'
def XPo (X : Cx) (pins : List (Addr × Obj)) (M : Mp) (H : Hp) (xp : Addr → Prop) : Value → Shared → Prop := fun e s' =>
  ∃ a C σ' H' M', e = .ref a ∧ Inv X pins σ' H' s' ∧ Fr M H M' H' ∧ XcAt X.s₀.heap H' s'.heap a (.ref C) ∧ xp C
theorem XPo.back {X : Cx} {pins : List (Addr × Obj)} {M M1 : Mp} {H H1 : Hp} {xp : Addr → Prop} {e : Value} {s' : Shared} (f : Fr M H M1 H1) (h : XPo X pins M1 H1 xp e s') : XPo X pins M H xp e s' := by
  obtain ⟨a, C, σ', H', M', e, I, f', x, q⟩ := h
  exact ⟨a, C, σ', H', M', e, I, f.trans f', x, q⟩
abbrev TEx := En → Mp → DK → (Addr → Prop) → Prop
abbrev TSx := En3 → (Addr → Prop) → En → Mp → Prop
structure PEx (X : Cx) (e : Expr) (t : TEx) : Prop where
  run : ∀ (pins : List (Addr × Obj)) (s : Shared) (σ : St) (H : Hp) (ρ : En) (M : Mp) (Q : DK) (xp : Addr → Prop), Inv X pins σ H s → Rep X.K H σ ρ M → t ρ M Q xp → wpAny (model X.prog X.w) X.A (eval e X.env) (EP X pins σ (Post X.K M H Q)) (XPo X pins M H xp) s
structure PSx (X : Cx) (st : Stmt) (t : TSx) : Prop where
  run : ∀ (pins : List (Addr × Obj)) (s : Shared) (σ : St) (H : Hp) (ρ : En) (M : Mp) (D : En3) (xp : Addr → Prop), Inv X pins σ H s → Rep X.K H σ ρ M → t D xp ρ M → wpAny (model X.prog X.w) X.A (exec st X.env) (SP X pins (ends X.K M H D)) (XPo X pins M H xp) s
structure PSsx (X : Cx) (st : List Stmt) (t : TSx) : Prop where
  run : ∀ (pins : List (Addr × Obj)) (s : Shared) (σ : St) (H : Hp) (ρ : En) (M : Mp) (D : En3) (xp : Addr → Prop), Inv X pins σ H s → Rep X.K H σ ρ M → t D xp ρ M → wpAny (model X.prog X.w) X.A (execs st X.env) (SP X pins (ends X.K M H D)) (XPo X pins M H xp) s
section
variable {X : Cx} {e a b : Expr} {st : Stmt} {rest : List Stmt} {pos : Pos}
def tUpS (t : TS3) : TSx := fun D _ ρ M => t D ρ M
theorem sx_up {t : TS3} (h : PS3 X st t) (hx : ∀ e s, X.xe e s → False := by intro _ _ h; exact h) : PSx X st (tUpS t) :=
  ⟨fun pins s σ H ρ M D xp I r q => wpAny_mono (h.run pins s σ H ρ M D I r q) (fun _ _ z => z) fun _ _ z => (hx _ _ z).elim⟩
theorem bx_up {t : TS3} (h : PSs3 X rest t) (hx : ∀ e s, X.xe e s → False := by intro _ _ h; exact h) : PSsx X rest (tUpS t) :=
  ⟨fun pins s σ H ρ M D xp I r q => wpAny_mono (h.run pins s σ H ρ M D I r q) (fun _ _ z => z) fun _ _ z => (hx _ _ z).elim⟩
def tSeqx (t u : TSx) : TSx := fun D xp ρ M => t { D with nx := u D xp } xp ρ M
theorem bx_cons {t u : TSx} (h1 : PSx X st t) (h2 : PSsx X rest u) : PSsx X (st :: rest) (tSeqx t u) := by
  constructor
  intro pins s σ H ρ M D xp I r q
  refine wpAny_execs_cons (thn (h1.run pins s σ H ρ M _ xp I r q) fun f s1 z => ?_)
  cases f with
  | next =>
    obtain ⟨σ', H', I', ρ', M', f, r', q'⟩ := z
    exact wpAny_mono (h2.run pins s1 σ' H' ρ' M' D xp I' r' q') (fun fl s2 y => ends_back f y) fun _ _ y => y.back f
  | ret v => exact z
  | brk => exact z
  | cont => exact z
theorem bx_one {t : TSx} (h1 : PSx X st t) : PSsx X [st] t := by
  constructor
  intro pins s σ H ρ M D xp I r q
  refine wpAny_execs_cons (thn (h1.run pins s σ H ρ M D xp I r q) fun f s1 z => ?_)
  cases f with
  | next => exact wpAny_execs_nil z
  | ret v => exact z
  | brk => exact z
  | cont => exact z
def tRetx (te : TEx) : TSx := fun D xp ρ M => te ρ M D.rt xp
theorem sx_ret {te : TEx} (he : PEx X e te) : PSx X (.Return (some e) pos) (tRetx te) := by
  constructor
  intro pins s σ H ρ M D xp I r q
  exact wpAny_Return_some (thn (he.run pins s σ H ρ M _ xp I r q) fun v s1 ⟨y, H1, I1, r1, z⟩ => ⟨y, σ, H1, I1, r1, z⟩)
def tIfx (c : TT3) (t u : TSx) : TSx := fun D xp ρ M => c ρ M fun b M1 => if b = true then t D xp ρ M1 else u D xp ρ M1
theorem sx_if {c : Expr} {a b : List Stmt} {tc : TT3} {t u : TSx} (hc : PT3 X c tc) (ha : PSsx X a t) (hb : PSsx X b u) (hx : ∀ e s, X.xe e s → False := by intro _ _ h; exact h) : PSx X (.If c a b pos) (tIfx tc t u) := by
  constructor
  intro pins s σ H ρ M D xp I r q
  refine wpAny_If (wpAny_mono (hc.run pins s σ H ρ M _ I r q) (fun d s1 ⟨H1, I1, M1, f1, rm1, q1⟩ => ?_) fun _ _ z => (hx _ _ z).elim)
  cases d with
  | true => exact wpAny_mono (ha.run pins s1 σ H1 ρ M1 D xp I1 (r.go f1 rm1) q1) (fun fl s2 y => ends_back f1 y) fun _ _ y => y.back f1
  | false => exact wpAny_mono (hb.run pins s1 σ H1 ρ M1 D xp I1 (r.go f1 rm1) q1) (fun fl s2 y => ends_back f1 y) fun _ _ y => y.back f1
abbrev SpX := List D → (D → Prop) → (Addr → Prop) → Prop
def spX (K : PySem.W.Frag) (S : SpX) : Sp := fun vs H Q E => ∃ ds Q0 C0, Dats K H ds vs ∧ S ds Q0 C0 ∧ (∀ d v H', Q0 d → Dat K H' d v → (∀ b o, H b = some o → H' b = some o) → Q v H') ∧
  ∀ C H', C0 C → (∀ b o, H b = some o → H' b = some o) → E (.ref C) none H'
variable {k : Nat} {f : Addr} {fd : FuncData} {ps : List Str} {x : Str} {es : List Expr} {p : Pos}
def tCallx (S : SpX) (t : TA3) : TEx := fun ρ M Q xp => t ρ M fun ds M1 => S ds (fun d => Q d M1) xp
theorem ex_call {S : SpX} {t : TA3} (F : FnOk X.prog X.w X.K X.mg X.base (CXx X.prog X.w) k f fd ps (spX X.K S)) (hr : Room k X.A) (hg : Gl X x) (hm : X.mg x = some (.ref f)) (hk : PySem.W.keepIn X.K (.ref f) = true) (hb : Binds X.K fd ps [])
    (ha : PA3 X (e :: es) t) (hdb : (x == ("__debug__" : Str)) = false := by decide) (he : starEach (e :: es) X.env = (false, eval e X.env) :: starEach es X.env := by rfl) (hpl : (backTo pos (starEach es X.env)).any (·.1) = false := by rfl)
    (hx : ∀ e s, X.xe e s → False := by intro _ _ h; exact h) (hex : X.ex = [] := by rfl) :
    PEx X (.Call (.Name x p) (e :: es) [] pos) (tCallx S t) := by
  constructor
  intro pins s σ H ρ M Q xp I r h
  refine wpAny_Call_Name_kw (ld_glob I hg hm ?_ hdb)
  refine PySem.W.callWith_K (h₀ := X.base) I.ok.mod.kin hk (wpAny_mono (ha.run pos pins s σ H ρ M _ I r h) (fun us s1 ⟨vs, H1, I1, rv, ds, M1, f1, dv, rm1, q⟩ => ⟨I1.kIn, ?_⟩) fun _ _ z => (hx _ _ z).elim) he hpl
  have hsp : spX X.K S vs H1 (Post X.K M H Q) (fun C _ H' => ∃ c M', C = .ref c ∧ xp c ∧ Fr M H M' H') := ⟨ds, _, xp, dv, q, fun d v H2 q2 d2 kp => ⟨d, M1, f1.trans fun b o n e => ⟨kp b o e, n⟩, d2, rm1.keep kp, q2⟩,
    fun C H2 q2 kp => ⟨C, M1, rfl, q2, f1.trans fun b o n e => ⟨kp b o e, n⟩⟩⟩
  have hl : us.length = ps.length := by rw [← rv.length]; exact F.len _ _ _ _ hsp
  have hbt := hb s1 us I1.kIn (by simpa using hl)
  rw [List.append_nil] at hbt
  refine wpAny_call (codeAny_mono (F.run X.A X.stack s1 H1 ⟨us, []⟩ us vs _ _ hr I1.env0 hbt rv hsp) fun r s' hq => ?_)
  cases r with
  | error e =>
    obtain ⟨a, C, H', rfl, os, bare, un, hok, xc, c, M', ec, xq, fr⟩ := hq
    cases ec
    have I' : Inv X pins σ H' s' := I1.call' (ch := []) os un hok bare (fun b z => absurd z (by simp))
    refine ⟨a, C, σ, H', M', rfl, I', fr, xc.ahead fun b o q => ?_, xq⟩
    exact I1.base.there b o q (by rw [hex]; simp)
  | ok fl =>
    cases fl with
    | ret u => exact I1.after hq
    | next => exact False.elim hq
    | brk => exact False.elim hq
    | cont => exact False.elim hq
def tRaise (C : Addr) (t : TA3) : TSx := fun D xp ρ M => t ρ M fun ds M1 => ds.length ≤ 1000 ∧ xp C
theorem sx_raise {t : TA3} {C : Addr} {np cpos : Pos} (Z : XC X.K C) (hc : X.calm = true) (hg : Gl X x) (hm : X.mg x = some (.ref C)) (ha : PA3 X (e :: es) t)
    (hdb : (x == ("__debug__" : Str)) = false := by decide) (he : starEach (e :: es) X.env = (false, eval e X.env) :: starEach es X.env := by rfl) (hpl : (backTo cpos (starEach (e :: es) X.env)).any (·.1) = false := by rfl)
    (hx : ∀ e s, X.xe e s → False := by intro _ _ h; exact h) (hex : X.ex = [] := by rfl) :
    PSx X (.Raise (some (.Call (.Name x np) (e :: es) [] cpos)) none pos) (tRaise C t) := by
  constructor
  intro pins s σ H ρ M D xp I r h
  obtain ⟨bm, N, nm, q, bs, hdct, sn, sub, ab, col, dd, k0, k1, k2, k3, k5, mN, hC, hN, hni, T⟩ := exc_obj I.ok.mod.kin Z.ex
  refine wpAny_Raise_call_subT (C := C) (nm := nm) (q := q) (N := N) (bs := bs) (bm := bm) (hdct := hdct) (sn := sn) (sub := sub) (ab := ab) (col := col) (dd := dd) (k0 := k0) (k1 := k1) (k2 := k2) (k3 := k3) (k5 := k5) (newId := "ValueError.__new__") (mN := mN) F.excBase_ValueError
    (T.hasType rfl) (I.ok.hd hc) hpl hni ?_
  refine ld_glob I hg hm ⟨rfl, ?_⟩ hdb
  rw [he]
  refine Calls.evalArgs_plain ?_
  have hA := ha.run cpos pins s σ H ρ M _ I r h
  rw [he] at hA
  refine wpAny_mono hA (fun us s1 ⟨vs, H1, I1, rv, ds, M1, f1, dv, rm1, hl, q⟩ => ?_) fun _ _ z => (hx _ _ z).elim
  refine ⟨rfl, ?_, I1.bk _ _ hC, hN.keeps I1.bk, T.keeps I1.bk, fun h' e' mk => ?_⟩
  · show us.length ≤ sizeLine
    rw [← rv.length, ← dv.length]
    exact Nat.le_of_lt (small1000 hl)
  · obtain ⟨tp, h1, h2, h3⟩ := mk.there
    have n1 : H1 e' = none := by
      cases q' : H1 e' with
      | none => rfl
      | some o => obtain ⟨u, z⟩ := obj_got (I1.hok e' o q'); rw [mk.new] at z; cases z
    have n0 : X.s₀.heap.get? e' = none := by
      cases q' : X.s₀.heap.get? e' with
      | none => rfl
      | some o => obtain ⟨u, z⟩ := I1.base.there e' o q' (by rw [hex]; simp); rw [mk.new] at z; cases z
    exact ⟨e', C, σ, H1, M1, rfl, I1.kept (t' := s1.toks) mk.keeps, f1, .inl ⟨n0, n1, _, _, h1, ⟨rfl, rfl⟩, rfl, rfl⟩, q⟩
theorem fnX {P : Program} {w : World} {K : PySem.W.Frag} {mg : Str → Option Value} {base : Heap} {x qual : Str} {st : Stmt} {f : Addr} {fd : FuncData} {N ps : List Str} {k : Nat} {S : SpX} (F : Fun K x qual st f fd) (Sc : FnScope N ps (defScope st)) (len : ∀ ds Q C, S ds Q C → ds.length = ps.length)
    (hbody : ∀ (cdv : Value) (A : Around) (outer : List Env) (s : Shared) (H : Hp), Room k (A.deeper (envOfC qual (defScope st) s.heap.objs.size f cdv)) →
      ∃ t, PSsx (cxOf CX0 P w K mg base N qual (defScope st) f cdv A outer s H E0).nox (defBody st) t ∧ ∀ ds Q C, S ds Q C → t { nx := fun _ _ => Q .non, rt := fun d _ => Q d } C (start3 N ds) noM) :
    FnOk P w K mg base (CXx P w) (k + 1) f fd ps (spX K S) := by
  obtain ⟨oc, od, kV, doc, pm, an, cdv, ct, osl, rfl, lk, hcd⟩ := F.ex
  refine fn_of lk hcd Sc (fun vs H Q E h => ?_) fun A outer s H vs Q E hr h => ?_
  · obtain ⟨ds, Q0, C0, h1, h2, _⟩ := h
    rw [← h1.length, len ds Q0 C0 h2]
  · obtain ⟨ds, Q0, C0, h1, h2, h3, h4⟩ := h
    obtain ⟨t, ht, hq⟩ := hbody cdv A outer s H hr
    refine ⟨fun D' σ H1 => H1 = H ∧ σ = L2.start N vs ∧ D' = ({ nx := fun _ H' => Q .non H', rt := Q } : Ends), ?_, rfl, rfl, rfl⟩
    intro pins s1 σ H1 D' I ⟨e1, e2, e3⟩
    subst e1 e2 e3
    refine wpAny_mono (ht.run pins s1 _ _ _ _ _ C0 (I.wish _) (rep_start h1 RepM.no) (hq ds Q0 C0 h2)) (fun fl s2 z => ?_) fun e s2 z => ?_
    · have un : ∀ {σ' H'}, Inv (cxOf CX0 P w K mg base N qual (defScope st) f cdv A outer s H1 E0).nox pins σ' H' s2 → Inv (cxOf (CXx P w) P w K mg base N qual (defScope st) f cdv A outer s H1 E) pins σ' H' s2 := fun I' =>
        Inv.unwish (X := cxOf (CXx P w) P w K mg base N qual (defScope st) f cdv A outer s H1 E) (E := fun _ _ => False) I'
      cases fl with
      | next => obtain ⟨σ', H', I', ρ', M', f', r', q⟩ := z; exact ⟨σ', H', un I', h3 .non .non H' q (dat_non.mpr rfl) fun b o e => (f' b o rfl e).1⟩
      | ret u => obtain ⟨v, σ', H', I', rv, d, M', f', dv, rm, q⟩ := z; exact ⟨v, σ', H', un I', rv, h3 d v H' q dv fun b o e => (f' b o rfl e).1⟩
      | brk => obtain ⟨_, _, _, _, _, _, _, z⟩ := z; exact z.elim
      | cont => obtain ⟨_, _, _, _, _, _, _, z⟩ := z; exact z.elim
    · obtain ⟨a, C, σ', H', M', rfl, I', f', xc, q⟩ := z
      have I' : Inv (cxOf (CXx P w) P w K mg base N qual (defScope st) f cdv A outer s H1 E) pins σ' H' s2 := Inv.unwish (X := cxOf (CXx P w) P w K mg base N qual (defScope st) f cdv A outer s H1 E) (E := fun _ _ => False) I'
      refine leave_xc (L := s.heap.objs.size) I'.ok.frames I'.stack rfl xc (fun b o q => I'.base.there b o q (fun z => absurd (show b ∈ ([] : List Addr) from z) (by simp))) (fun b hb => I'.hok.fresh hb) fun h' stm x' => ?_
      refine ⟨a, C, H', rfl, I'.os, I'.bare, I'.base.stm stm fun b o q hb => ?_, I'.hok.stm stm I'.stkFree, .inr x', h4 C H' q fun b o e => (f' b o rfl e).1⟩
      rcases List.mem_cons.mp (I'.stkSub b hb) with rfl | hb
      · exact absurd (Heap.lt_size q) (Nat.lt_irrefl _)
      · exact hb
end
end L3
namespace L3
open PySem PySem.Spec PyProof.Rows L2
theorem match_K {M : Model} {A : Around} {E : Value → Shared → Prop} {h : Heap} {g : Array GenState} {d : Drawn} {t : Nat} {os : OsState} {K : PySem.W.Frag} {e C B : Addr} {oe : Obj} {Q : Bool → Shared → Prop} (X : K.In h) (he : h.get? e = some oe) (hcls : oe.cls = .ref C)
    (Z : XC K B) (hs : PySem.W.subIn K (.ref C) (.ref B) = some true) (hq : Q true ⟨h, g, d, t, os⟩) : wpAny M A (excMatches (.ref e) (.ref B)) Q E ⟨h, g, d, t, os⟩ := by
  obtain ⟨bm, N, nm, q, bs, hdct, sn, sub, ab, col, dd, k0, k1, k2, k3, k5, mN, hC, hN, hni, T⟩ := exc_obj X Z.ex
  have f := tc_notTuple
  unfold excMatches
  repeat (first | (with_reducible refine wpAny_loadPart_at he ?_; rw [hcls]) | with_reducible refine wpAny_loadPart_at hC ?_ | with_reducible refine sub_K X Z.sb ?_ | with_reducible refine sub_K X hs ?_ | wp_step)
  exact hq
section
variable {X : Cx} {pins : List (Addr × Obj)} {σ : St} {H : Hp} {s : Shared}
def hand (X : Cx) (a : Addr) (oe : Obj) : Cx := { X with A := X.A.mark (some (.ref a)), calm := false, pn := (a, oe) :: X.pn, xe := fun _ _ => False }
theorem inv_hand {a : Addr} {oe : Obj} (I : Inv X pins σ H s) (h : s.heap.get? a = some oe) (n : H a = none) (hl : a ≠ X.env.locals) (hf : a ∉ X.fs) (hd : ∀ v, oe.data ≠ .cell v) : Inv (hand X a oe) pins σ H s :=
  ⟨⟨I.ok.mod, I.ok.kind, I.ok.glob, I.ok.blt, I.ok.above, I.ok.inj, I.ok.has, I.ok.cab, (fun z => nomatch z), I.ok.frames, I.ok.stk, I.ok.exf, I.ok.bs, I.ok.bsz, I.ok.noex, I.ok.exfs, I.ok.funs, I.ok.frf⟩, I.os, I.bare, I.base, I.loc, I.cell, I.free, I.freeC,
    fun p hp => by
      rcases List.mem_cons.mp (show p ∈ (a, oe) :: (X.pn ++ pins) from hp) with rfl | hp
      · exact ⟨h, n, hl, hf, hd⟩
      · exact I.pin p hp, I.hok, I.len⟩
theorem inv_unhand {a : Addr} {oe : Obj} (ok : X.Ok) (I : Inv (hand X a oe) pins σ H s) : Inv X pins σ H s :=
  ⟨ok, I.os, I.bare, I.base, I.loc, I.cell, I.free, I.freeC, fun p hp => I.pin p (show p ∈ (a, oe) :: (X.pn ++ pins) from List.mem_cons_of_mem _ hp), I.hok, I.len⟩
theorem hand_at {a : Addr} {oe : Obj} (I : Inv (hand X a oe) pins σ H s) : s.heap.get? a = some oe := (I.pin (a, oe) (show (a, oe) ∈ (a, oe) :: (X.pn ++ pins) from List.mem_cons_self)).1
theorem gone_ok {M : Model} {A : Around} {E : Value → Shared → Prop} {i : Nat} {x : Str} {pos : Pos} {Q : Unit → Shared → Prop} (I : Inv X pins σ H s) (hN : X.N.Nodup) (hi : X.N[i]? = some x) (hk : X.env.scope.names.lookup x = some .local)
    (h : ∀ s', Inv X pins (σ.set i none) H s' → Q () s') : wpAny M A (do bindName X.env x .none; unbindBehindTheSuite X.env x pos) Q E s := by
  obtain ⟨m, hn, hl⟩ := id I.loc
  have hcls : (X.env.scope.kind == .class || (X.env.scope.kind == .module && X.env.locals != X.env.globals)) = false := by rw [I.ok.kind]; rfl
  have hiσ : i < σ.length := by rw [I.len]; exact (List.getElem?_eq_some_iff.mp hi).1
  have cne := I.cne
  obtain ⟨oL, _, _, hoL, _⟩ := id hn
  refine wpAny_nameGoes_keeps hk hn hcls fun h' v hn' hs => ?_
  refine h _ ⟨I.ok, I.os, I.bare, ⟨fun b o e n hb hx => ?_, fun b o e n hb hx => ?_, I.base.free, fun b o e hx => ?_, I.base.tups, I.base.frzs, I.base.tbls⟩, ⟨_, hn', fun j y v' e1 e2 e3 => ?_⟩, fun y c e => ?_, I.free, I.freeC, fun p hp => ?_, fun b ob e => ?_, by simpa using I.len⟩
  · exact (hs.2 b (Nat.ne_of_lt (Nat.lt_of_lt_of_le (Heap.lt_size e) I.ok.above))).trans (I.base.keep b o e n hb hx)
  · obtain ⟨sl, e1⟩ := I.base.slot b o e n hb hx
    exact ⟨sl, (hs.2 b (Nat.ne_of_lt (Nat.lt_of_lt_of_le (Heap.lt_size e) I.ok.above))).trans e1⟩
  · obtain ⟨o', e1⟩ := I.base.there b o e hx
    exact ⟨o', (hs.2 b (Nat.ne_of_lt (Nat.lt_of_lt_of_le (Heap.lt_size e) I.ok.above))).trans e1⟩
  · by_cases hj : j = i
    · subst hj
      rw [List.getElem?_set_self hiσ] at e2
      cases e2
    · rw [List.getElem?_set_ne (Ne.symm hj)] at e2
      obtain ⟨u', r', q⟩ := hl j y v' e1 e2 e3
      refine ⟨u', r', ?_⟩
      rcases q with ⟨k, e⟩ | ⟨k, c, e, z⟩
      · refine .inl ⟨k, ?_⟩
        have : y ≠ x := fun e => hj (nodup_ix hN e1 (e ▸ hi))
        simp [this, e]
      · exact .inr ⟨k, c, e, z.sameBut hs (cne y c e)⟩
  · obtain ⟨w', z⟩ := I.cell y c e
    exact ⟨w', z.sameBut hs (cne y c e)⟩
  · obtain ⟨e, n, ne, nf, d⟩ := I.pin p hp
    exact ⟨(hs.2 p.1 ne).trans e, n, ne, nf, d⟩
  · refine (I.hok b ob e).stay (fun c w' hc q => (hs.2 c ?_).trans q) (fun _ q => q) fun _ _ q => q
    rintro rfl
    rcases hc with rfl | hc
    · rw [I.free] at e; cases e
    · rw [I.free] at hc; cases hc
theorem Rep.unset {K : PySem.W.Frag} {H : Hp} {σ : St} {ρ : En} {M : Mp} {i : Nat} (r : Rep K H σ ρ M) : Rep K H (σ.set i none) (ρ.set i none) M := by
  refine ⟨fun j e q => ?_, by simp [r.len], r.mem⟩
  by_cases hj : i = j
  · subst hj
    by_cases hl : i < ρ.length
    · rw [List.getElem?_set_self hl] at q; cases q
    · rw [List.getElem?_eq_none (by simp; omega)] at q; cases q
  · rw [List.getElem?_set_ne hj] at q ⊢
    exact r.env j e q
end
section
variable {X : Cx} {e : Expr} {es : List Expr} {k : Nat} {f : Addr} {fd : FuncData} {ps : List Str} {x cn n : Str} {p pos epos cpos hp cp : Pos}
def ExO (C : Addr) (oe : Obj) : Prop := oe.cls = .ref C ∧ oe.dict = none ∧ ∃ vs, oe.data = .fields vs
def tTry (K : PySem.W.Frag) (B : Addr) (S : SpX) (t : TA3) (i : Nat) (th : Addr → Addr → TS3) : TS3 := fun D ρ M => t ρ M fun ds M1 => S ds (fun _ => D.nx ρ M1) fun C =>
  PySem.W.subIn K (.ref C) (.ref B) = some true ∧ ∀ a, th a C { nx := fun ρ' M' => D.nx (ρ'.set i none) M', rt := D.rt, bk := fun ρ' M' => D.bk (ρ'.set i none) M', ct := fun ρ' M' => D.ct (ρ'.set i none) M' } (ρ.set i (some (.ref a))) M1
theorem s_try {S : SpX} {t : TA3} {i : Nat} {B : Addr} {b₀ : Stmt} {suite : List Stmt} {th : Addr → Addr → TS3}
    (F : FnOk X.prog X.w X.K X.mg X.base (CXx X.prog X.w) k f fd ps (spX X.K S)) (hr : Room k X.A) (hg : Gl X x) (hm : X.mg x = some (.ref f)) (hk : PySem.W.keepIn X.K (.ref f) = true) (hb : Binds X.K fd ps [])
    (ha : PA3 X (e :: es) t) (Z : XC X.K B) (hcg : Gl X cn) (hcm : X.mg cn = some (.ref B)) (hN : X.N.Nodup) (hi : X.N[i]? = some n) (hl : X.env.scope.names.lookup n = some .local)
    (hs : ∀ (a C : Addr) (oe : Obj), ExO C oe → PSs3 (hand X a oe) (b₀ :: suite) (th a C))
    (hst : X.stack = X.env :: X.outer := by rfl) (hfr : X.env.frame = some X.env.locals := by rfl)
    (hsw : swapsWith (.Call (.Name x p) (e :: es) [] cpos) none epos.line X.env = pure false := by rfl)
    (hdb : (x == ("__debug__" : Str)) = false := by decide) (hdc : (cn == ("__debug__" : Str)) = false := by decide) (he : starEach (e :: es) X.env = (false, eval e X.env) :: starEach es X.env := by rfl) (hpl : (backTo cpos (starEach es X.env)).any (·.1) = false := by rfl)
    (hx : ∀ e s, X.xe e s → False := by intro _ _ h; exact h) :
    PS3 X (.Try [.Expr (.Call (.Name x p) (e :: es) [] cpos) epos] [.ExceptHandler (some (.Name cn cp)) (some n) (b₀ :: suite) hp] [] [] pos) (tTry X.K B S t i th) := by
  constructor
  intro pins s σ H ρ M D I r h
  refine wpAny_Try_except (wpAny_execs_cons (wpAny_Expr_any ?_ I.quiet hsw))
  refine wpAny_Call_Name_kw (ld_glob I hg hm ?_ hdb)
  refine PySem.W.callWith_K (h₀ := X.base) I.ok.mod.kin hk (wpAny_mono (ha.run cpos pins s σ H ρ M _ I r h) (fun us s1 ⟨vs, H1, I1, rv, ds, M1, f1, dv, rm1, q⟩ => ⟨I1.kIn, ?_⟩) fun _ _ z => (hx _ _ z).elim) he hpl
  have hsp : spX X.K S vs H1 (fun _ H' => PostN X.K M H D.nx σ H') (fun Cv _ H' => ∃ C, Cv = .ref C ∧ (∀ b o, H1 b = some o → H' b = some o) ∧ PySem.W.subIn X.K (.ref C) (.ref B) = some true ∧
      ∀ a, th a C { nx := fun ρ' M' => D.nx (ρ'.set i none) M', rt := D.rt, bk := fun ρ' M' => D.bk (ρ'.set i none) M', ct := fun ρ' M' => D.ct (ρ'.set i none) M' } (ρ.set i (some (.ref a))) M1) :=
    ⟨ds, _, _, dv, q, fun d v H2 q2 d2 kp => ⟨ρ, M1, f1.trans fun b o n e => ⟨kp b o e, n⟩, (r.go f1 rm1).go (fun b o n e => ⟨kp b o e, n⟩) (rm1.keep kp), q2⟩,
    fun C H2 q2 kp => ⟨C, rfl, kp, q2⟩⟩
  have hlen : us.length = ps.length := by rw [← rv.length]; exact F.len _ _ _ _ hsp
  have hbt := hb s1 us I1.kIn (by simpa using hlen)
  rw [List.append_nil] at hbt
  refine wpAny_call (codeAny_mono (F.run X.A X.stack s1 H1 ⟨us, []⟩ us vs _ _ hr I1.env0 hbt rv hsp) fun res s' hq => ?_)
  cases res with
  | ok fl =>
    cases fl with
    | ret u =>
      obtain ⟨v, H2, I2, _, z⟩ := I1.after hq
      exact wpAny_execs_nil (wpAny_execs_nil ⟨σ, H2, I2, z⟩)
    | next => exact False.elim hq
    | brk => exact False.elim hq
    | cont => exact False.elim hq
  | error ev =>
    obtain ⟨a, C, H', rfl, os, bare, un, hok, xc, C', ec, kp, hsub, hth⟩ := hq
    cases ec
    have noch : ∀ b ∈ ([] : List Addr), (b ∈ X.ex ∨ X.s₀.heap.objs.size ≤ b) ∧ b ≠ X.env.locals ∧ (∀ x c, X.env.cells.lookup x = some c → c ≠ b) ∧ ∀ p ∈ X.pn ++ pins, p.1 ≠ b := fun b z => absurd z (by simp)
    have I' : Inv X pins σ H' s' := I1.call' (ch := []) os un hok bare noch
    have na : s1.heap.get? a = none := xc.new.1
    have aL : a ≠ X.env.locals := fun z => by
      obtain ⟨m, ⟨o, _, _, ho, _⟩, _⟩ := I1.loc
      rw [← z, na] at ho; cases ho
    have aF : a ∉ X.fs := fun z => by
      obtain ⟨_, o, ho, _⟩ := I1.funs.mem z
      rw [na] at ho; cases ho
    have hfr' : X.A.frames = some (X.env :: X.outer) := by rw [← hst]; exact I'.ok.frames
    have hsk : s'.heap.FunFrames X.base (X.env :: X.outer) := by rw [← hst]; exact I'.stack
    have sub : ∀ b ∈ frs (X.env :: X.outer), H' b = none := by rw [← hst]; exact I'.stkFree
    have step : ∀ h2, Stm s1.heap H' (frs (X.env :: X.outer)) s'.heap h2 → Inv X pins σ H' { s' with heap := h2 } := fun h2 st =>
      I1.call' (ch := []) (s' := { s' with heap := h2 }) os (by rw [hst] at un ⊢; exact un.stm st fun b o _ hb => hb) (hok.stm st sub) bare noch
    refine note_xc hfr' hsk hfr xc (fun b o q => un.there b o q (by simp)) (fun b hb => hok.fresh hb) fun h1 st1 x1 => ?_
    refine land_xc (S := frs (X.env :: X.outer)) (s := { s' with heap := h1 }) x1 fun h2 st2 x2 => ?_
    have I2 := step h2 (st1.trans st2)
    have in_hand : ∀ h3, Inv X pins σ H' { s' with heap := h3 } → XcT s1.heap H' h3 a (.ref C) .none → ∃ oe, ExO C oe ∧ h3.get? a = some oe ∧ Inv (hand X a oe) pins σ H' { s' with heap := h3 } := fun h3 I3 x3 => by
      obtain ⟨oe, e1, ⟨e2, e3⟩, vs, e4⟩ := XcAt.there (.inr x3)
      exact ⟨oe, ⟨e2, e3, vs, e4⟩, e1, inv_hand I3 e1 x3.2.1 aL aF (by rw [e4]; intro v z; cases z)⟩
    obtain ⟨oe2, ho2, hg2, J2⟩ := in_hand h2 I2 x2
    refine wpAny_handleBy_cons (codeAny_handlers_test (ld_glob J2 hcg hcm ?_ hdc)) (by intro q; cases q)
    refine match_K I2.kIn hg2 ho2.1 Z hsub ?_
    refine codeAny_handlers_suite_as ?_
    refine land_xc (S := frs (X.env :: X.outer)) (s := { s' with heap := h2 }) x2 fun h3 st3 x3 => ?_
    have I3 := step h3 ((st1.trans st2).trans st3)
    obtain ⟨oe, ho, hg3, J3⟩ := in_hand h3 I3 x3
    refine store_ok (X := hand X a oe) (v := .ref a) J3 hN hi (.inl hl) rfl (fun s4 J4 => ?_) (.inr hl)
    have fr : Fr M H M1 H' := f1.trans fun b o n e => ⟨kp b o e, n⟩
    have rep : Rep X.K H' (σ.set i (some (.ref a))) (ρ.set i (some (.ref a))) M1 := ((r.go f1 rm1).go (fun b o n e => ⟨kp b o e, n⟩) (rm1.keep kp)).set (dat_ref.mpr rfl)
    refine wpAny_mono ((hs a C oe ho).run pins s4 _ H' _ M1 _ J4 rep (hth a)) (fun fl s5 z => ?_) fun _ _ z => False.elim z
    have fin : ∀ {σ' H''} {R : Unit → Shared → Prop}, Inv (hand X a oe) pins σ' H'' s5 → (∀ s6, Inv X pins (σ'.set i none) H'' s6 → R () s6) → wpAny (model X.prog X.w) X.A (do bindName X.env n .none; unbindBehindTheSuite X.env n hp) R X.xe s5 :=
      fun J5 k => gone_ok (inv_unhand I.ok J5) hN hi hl k
    cases fl with
    | next =>
      obtain ⟨σ', H'', J5, ρ', M', f', r', q'⟩ := z
      exact fin J5 fun s6 I6 => ⟨_, H'', I6, _, M', fr.trans f', Rep.unset r', q'⟩
    | brk =>
      obtain ⟨σ', H'', J5, ρ', M', f', r', q'⟩ := z
      exact fin J5 fun s6 I6 => ⟨_, H'', I6, _, M', fr.trans f', Rep.unset r', q'⟩
    | cont =>
      obtain ⟨σ', H'', J5, ρ', M', f', r', q'⟩ := z
      exact fin J5 fun s6 I6 => ⟨_, H'', I6, _, M', fr.trans f', Rep.unset r', q'⟩
    | ret u =>
      obtain ⟨v, σ', H'', J5, rv', d, M', f', dv', rm', q'⟩ := z
      exact fin J5 fun s6 I6 => ⟨v, _, H'', I6, rv', d, M', fr.trans f', dv', rm', q'⟩
end
section
variable {X : Cx}
def rIsX (K : PySem.W.Frag) (a C : Addr) : List D → Mp → DK → Prop := fun ds M Q => ∃ b, XCls K C ∧ ((∃ B, ds = [.ref a, .ref B] ∧ PySem.W.kitOne K (.ref C) (.ref B) = some b) ∨ (∃ n, ds = [.ref a, .ty n] ∧ PySem.W.kitOne K (.ref C) (.type n) = some b)) ∧ Q (.bl b) M
theorem c_isX {a C : Addr} {oe : Obj} (ho : ExO C oe) : Call3 (hand X a oe) (.builtin "isinstance") (rIsX X.K a C) := by
  constructor
  intro pins s σ H M xs ds us Q I rm rs dx ⟨b, Z, hk, q⟩
  have fin : ∀ tk, EP (hand X a oe) pins σ (Post X.K M H Q) (.bool b) { s with toks := tk } := fun tk => ⟨.bl b, H, I.tok tk, rfl, post_self rm (dat_bl.mpr rfl) q⟩
  obtain ⟨vs, hv⟩ := ho.2.2
  have J : ∃ o, PySem.W.InstAt s.heap a o C none := ⟨oe, hand_at I, ho.1, by unfold PySem.W.notCls; rw [hv], by rw [ho.2.1]; trivial⟩
  rcases hk with ⟨B, ei, hk⟩ | ⟨n, ei, hk⟩
  · subst ei
    obtain ⟨v, u, rfl, h1, h2⟩ := dats2 dx
    obtain rfl := dat_ref.mp h1
    obtain rfl := dat_ref.mp h2
    obtain ⟨v', u', rfl, r1, r2⟩ := vals2 rs
    obtain rfl : v' = Value.ref a := r1
    obtain rfl : u' = Value.ref B := r2
    exact PySem.W.kia_one (kitx_exc Z) I.kIn J hk (fun z => nomatch z) fin
  · subst ei
    obtain ⟨v, u, rfl, h1, h2⟩ := dats2 dx
    obtain rfl := dat_ref.mp h1
    obtain rfl := dat_ty.mp h2
    obtain ⟨v', u', rfl, r1, r2⟩ := vals2 rs
    obtain rfl : v' = Value.ref a := r1
    obtain rfl : u' = Value.type n := r2
    exact PySem.W.kia_one (kitx_exc Z) I.kIn J hk (fun z => nomatch z) fin
end
end L3
namespace L3
open PySem PySem.Spec PyProof.Rows L2
section
variable {X : Cx} {a b e o : Expr} {ta tb te to : TE3} {pos apos : Pos}
def rCatS : R3 := fun d e M Q => ∃ x y, d = .str x ∧ e = .str y ∧ x.length + y.length ≤ sizeLine ∧ Q (.str (x ++ y)) M
theorem o_catS : Op3 X (binaryOp .Add) rCatS := op3 op_add_str fun H M x y d e Q rm dx dy ⟨i, j, e1, e2, hz, q⟩ => by
  subst e1; subst e2
  obtain rfl := dat_str.mp dx
  obtain rfl := dat_str.mp dy
  exact ⟨i, j, rfl, rfl, hz, post_self rm (dat_str.mpr rfl) q⟩
def rInS : R3 := fun d e M Q => ∃ c y, d = .str ⟨#[c]⟩ ∧ e = .str y ∧ Q (.bl (decide (c ∈ y.cps.toList))) M
theorem o_inS : Op3 X (compareOp .In) rInS := op3 op_in_str fun H M x y d e Q rm dx dy ⟨c, j, e1, e2, q⟩ => by
  subst e1; subst e2
  obtain rfl := dat_str.mp dx
  obtain rfl := dat_str.mp dy
  refine ⟨_, j, rfl, rfl, ?_⟩
  rw [PySem.StrLaws.found_one]
  exact post_self rm (dat_bl.mpr rfl) q
def rNotInS : R3 := fun d e M Q => ∃ c y, d = .str ⟨#[c]⟩ ∧ e = .str y ∧ Q (.bl (!decide (c ∈ y.cps.toList))) M
theorem o_notInS : Op3 X (compareOp .NotIn) rNotInS := op3 op_notin_str fun H M x y d e Q rm dx dy ⟨c, j, e1, e2, q⟩ => by
  subst e1; subst e2
  obtain rfl := dat_str.mp dx
  obtain rfl := dat_str.mp dy
  refine ⟨_, j, rfl, rfl, ?_⟩
  rw [PySem.StrLaws.found_one]
  exact post_self rm (dat_bl.mpr rfl) q
def rLenS : List D → Mp → DK → Prop := fun ds M Q => ∃ x, ds = [.str x] ∧ x.length ≤ sizeLine ∧ Q (.int x.length) M
theorem c_lenS : Call3 X (.builtin "len") rLenS := call3 call_len_str fun H M xs ds Q rm dx ⟨x, e1, hz, q⟩ => by
  subst e1
  obtain ⟨v, rfl, hv⟩ := dats1 dx
  obtain rfl := dat_str.mp hv
  exact ⟨x, rfl, hz, post_self rm (dat_int.mpr rfl) q⟩
def rStrI : List D → Mp → DK → Prop := fun ds M Q => ∃ i : Int, ds = [.int i] ∧ i.natAbs.log2 < 1920 ∧ Q (.str (Str.ofString (toString i))) M
theorem c_strI : Call3 X (.type "str") rStrI := call3 call_str_int fun H M xs ds Q rm dx ⟨i, e1, hz, q⟩ => by
  subst e1
  obtain ⟨v, rfl, hv⟩ := dats1 dx
  obtain rfl := dat_int.mp hv
  exact ⟨i, rfl, hz, post_self rm (dat_str.mpr rfl) q⟩
def rIntS : List D → Mp → DK → Prop := fun ds M Q => ∃ x n, ds = [.str x] ∧ PySem.intText? x = some n ∧ x.length ≤ 640 ∧ Q (.int n) M
theorem c_intS : Call3 X (.type "int") rIntS := by
  constructor
  intro pins s σ H M xs ds us Q I rm rs dx ⟨x, n, e1, hn, hl, q⟩
  subst e1
  obtain ⟨v, rfl, hv⟩ := dats1 dx
  obtain rfl := dat_str.mp hv
  obtain ⟨u, rfl, t, rfl⟩ := vals1 rs
  exact PySem.W.KIN.call_text hn hl ⟨.int n, H, I.tok _, ⟨_, rfl⟩, post_self rm (dat_int.mpr rfl) q⟩
def rIxS3 : R3 := fun d e M Q => ∃ x i c, d = .str x ∧ e = .int i ∧ x.length ≤ sizeLine ∧ atI x.cps.toList i = some c ∧ Q (.str ⟨#[c]⟩) M
theorem q_ixS (ha : PE3 X a ta) (hb : PE3 X b tb) (hs : PlainIx b := by intro _ _; rfl) : PE3 X (.Subscript a b pos) (tBin rIxS3 ta tb) := up (pe_ix ix_str ha.dn hb.dn hs) fun σ H ρ M Q r q =>
  dn_of r q fun v H' d M' f dv r' q => dn_of r' q fun u H2 e M2 f2 du r2 ⟨x, i, c, e1, e2, hz, at', q2⟩ => by
    subst e1; subst e2
    obtain rfl := dat_int.mp du
    obtain rfl := dat_str.mp dv
    exact ⟨x, i, c, rfl, rfl, hz, at', .str ⟨#[c]⟩, M2, f.trans f2, dat_str.mpr rfl, r2.mem, q2⟩
def rSlS : V → Option Int → Option Int → Hp → VK → Prop := fun x lo hi H Q => ∃ z, x = .str z ∧ z.length ≤ sizeLine ∧ Q (.str (Txt.slice z lo hi)) H
theorem sl_str : SlR X rSlS := by
  intro pins s σ H x v vl vu lo hi sl Q I rx hs pl pu h
  obtain ⟨z, rfl, hz, q⟩ := h
  obtain ⟨t, rfl⟩ := rx
  refine ⟨"str", _, F.slot_str_getitem.lookup, typeIs_str _ _ _, ?_⟩
  cases pl with
  | none =>
    cases pu with
    | none => exact wpAny_getItem_str_slice (l := none) (u := none) (st := none) hs rfl (post_val_or_str ⟨Nat.le_trans (Txt.slice_le z _ _) hz, fun t' k => ⟨.str (Txt.slice z none none), H, I.tok k, ⟨_, rfl⟩, q⟩⟩)
    | int j u => exact wpAny_getItem_str_slice (l := none) (u := some (j, u)) (st := none) hs rfl (post_val_or_str ⟨Nat.le_trans (Txt.slice_le z _ _) hz, fun t' k => ⟨.str (Txt.slice z none (some j)), H, I.tok k, ⟨_, rfl⟩, q⟩⟩)
  | int i w =>
    cases pu with
    | none => exact wpAny_getItem_str_slice (l := some (i, w)) (u := none) (st := none) hs rfl (post_val_or_str ⟨Nat.le_trans (Txt.slice_le z _ _) hz, fun t' k => ⟨.str (Txt.slice z (some i) none), H, I.tok k, ⟨_, rfl⟩, q⟩⟩)
    | int j u => exact wpAny_getItem_str_slice (l := some (i, w)) (u := some (j, u)) (st := none) hs rfl (post_val_or_str ⟨Nat.le_trans (Txt.slice_le z _ _) hz, fun t' k => ⟨.str (Txt.slice z (some i) (some j)), H, I.tok k, ⟨_, rfl⟩, q⟩⟩)
def tSlS (te : TE3) (tl th : TO3) : TE3 := fun ρ M Q => te ρ M fun d M1 => tl ρ M1 fun lo M2 => th ρ M2 fun hi M3 => ∃ x, d = .str x ∧ x.length ≤ sizeLine ∧ Q (.str (Txt.slice x lo hi)) M3
theorem q_sliceS {lo hi : Option Expr} {tl th : TO3} {p2 : Pos} (he : PE3 X e te) (hl : PO3 X lo tl) (hh : PO3 X hi th) : PE3 X (.Subscript e (.Slice lo hi none p2) pos) (tSlS te tl th) := by
  obtain ⟨tl2, pl, gl⟩ := hl.dn
  obtain ⟨th2, ph, gh⟩ := hh.dn
  refine up (pe_slice sl_str he.dn pl ph) fun σ H ρ M Q r q => dn_of r q fun v H' d M' f dv r' q1 => gl _ _ _ _ _ _ r' q1 fun lo H2 M2 f2 r2 q2 => gh _ _ _ _ _ _ r2 q2 fun hi H3 M3 f3 r3 ⟨x, e1, hz, q3⟩ => ?_
  subst e1
  obtain rfl := dat_str.mp dv
  exact ⟨x, rfl, hz, .str _, M3, (f.trans f2).trans f3, dat_str.mpr rfl, r3.mem, q3⟩
def rStarts : V → List V → Hp → VK → Prop := fun x xs H Q => ∃ z y, x = .str z ∧ xs = [.str y] ∧ Q (.bl (Txt.startswith z y)) H
theorem mt_starts : MtR X "str.startswith" rStarts := by
  intro pins s σ H x xs v us Q I rx rv h
  obtain ⟨z, y, rfl, rfl, q⟩ := h
  obtain ⟨t, rfl⟩ := rx
  obtain ⟨u, rfl, t', rfl⟩ := vals1 rv
  exact SC.startswith ⟨.bl _, H, I, rfl, q⟩
def rZfill : V → List V → Hp → VK → Prop := fun x xs H Q => ∃ z i, x = .str z ∧ xs = [.int i] ∧ PadOk i = true ∧ Q (.str (Txt.zfill z i)) H
theorem mt_zfill : MtR X "str.zfill" rZfill := by
  intro pins s σ H x xs v us Q I rx rv h
  obtain ⟨z, i, rfl, rfl, hp, q⟩ := h
  obtain ⟨t, rfl⟩ := rx
  obtain ⟨u, rfl, t', rfl⟩ := vals1 rv
  exact SC.zfill hp fun t2 k => ⟨.str _, H, I.tok k, ⟨_, rfl⟩, q⟩
theorem vals_strs : ∀ (l : List (Str × Tok)), Vals ((l.map (·.1)).map V.str) (strValues l)
  | [] => .nil
  | (x, t) :: l => .cons ⟨t, rfl⟩ (vals_strs l)
def rSplit : V → List V → Hp → VK → Prop := fun x xs H Q => ∃ z c, x = .str z ∧ xs = [.str ⟨#[c]⟩] ∧ z.length ≤ 1000 ∧ ∀ p, H p = none → Q (.ref p) (upd H p (.lst ((Txt.split z ⟨#[c]⟩).map V.str)))
theorem mt_split : MtR X "str.split" rSplit := by
  intro pins s σ H x xs v us Q I rx rv h
  obtain ⟨z, c, rfl, rfl, hz, q⟩ := h
  obtain ⟨t, rfl⟩ := rx
  obtain ⟨w, rfl, t', rfl⟩ := vals1 rv
  have big : 1002 ≤ sizeLine := by rw [sizeLine_eq]; decide
  have h1000 : z.length ≤ sizeLine := by omega
  have hy : ((⟨#[c]⟩ : Str).length == 0) = false := rfl
  have hcut : (Builtin.Str.partsBetween z (Builtin.Str.occurrences z ⟨#[c]⟩ 0 z.length (z.length + 1)) (⟨#[c]⟩ : Str).length).length ≤ sizeLine := by
    rw [PySem.length_partsBetween]
    have := PySem.StrLaws.occ_length_le z ⟨#[c]⟩ 0 z.length (z.length + 1)
    omega
  have fin : ∀ (l : List (Str × Tok)) (k : Nat), l.map (·.1) = Txt.split z ⟨#[c]⟩ → l.length ≤ sizeLine →
      EP X pins σ Q (.ref s.heap.objs.size) { s with toks := k, heap := s.heap.push { cls := .type "list", data := .seq (strValues l).toArray } } := fun l k hl hn => by
    refine ⟨.ref s.heap.objs.size, _, I.laid (t' := k) (o := .lst ((Txt.split z ⟨#[c]⟩).map V.str)) (fun b ob e => Heap.get?_push_of_some _ e) (Nat.le_refl _) ?_, rfl, q _ (I.hok.fresh (Nat.le_refl _))⟩
    rw [← hl]
    exact ⟨by simpa using hn, _, 0, vals_strs l, Heap.get?_push_size _ rfl⟩
  cases h1 : (decide (z.length < (⟨#[c]⟩ : Str).length) || decide (Builtin.Str.strKind z < Builtin.Str.strKind ⟨#[c]⟩)) with
  | true =>
    refine call_meets F.slot_str_split (typeIs_str _ _ _) F.entry_str_split (F.args_str_split_2 _ _) (meets_str_split_cannot_occur z ⟨#[c]⟩ t t' h1) ?_
    exact fin [(z, t)] s.toks (if_pos h1).symm (by show 1 ≤ sizeLine; omega)
  | false =>
    cases hf : (Builtin.Str.occurrences z ⟨#[c]⟩ 0 z.length (z.length + 1)).isEmpty with
    | true =>
      refine call_meets F.slot_str_split (typeIs_str _ _ _) F.entry_str_split (F.args_str_split_2 _ _) (meets_str_split_not_found z ⟨#[c]⟩ t t' h1 hy hf) ?_
      exact fin [(z, t)] s.toks ((if_neg (ne_true_of_eq_false h1)).trans (if_pos hf)).symm (by show 1 ≤ sizeLine; omega)
    | false =>
      refine call_meets F.slot_str_split (typeIs_str _ _ _) F.entry_str_split (F.args_str_split_2 _ _) (meets_str_split_sep z ⟨#[c]⟩ t t' h1 hy hf h1000 hcut) ?_
      rw [strsFrom_eq]
      have hp : (numbered s.toks (Builtin.Str.partsBetween z (Builtin.Str.occurrences z ⟨#[c]⟩ 0 z.length (z.length + 1)) (⟨#[c]⟩ : Str).length)).map (·.1) = Txt.split z ⟨#[c]⟩ :=
        (numbered_texts _ _).trans ((if_neg (ne_true_of_eq_false h1)).trans (if_neg (ne_true_of_eq_false hf))).symm
      refine fin _ _ hp ?_
      have e := congrArg List.length (numbered_texts s.toks (Builtin.Str.partsBetween z (Builtin.Str.occurrences z ⟨#[c]⟩ 0 z.length (z.length + 1)) (⟨#[c]⟩ : Str).length))
      rw [List.length_map] at e
      omega
def tMt (r3 : D → D → Mp → DK → Prop) (to te : TE3) : TE3 := fun ρ M Q => to ρ M fun d M1 => (∃ x, d = .str x) ∧ te ρ M1 fun e M2 => r3 d e M2 Q
theorem q_mt {name : Str} {r : V → List V → Hp → VK → Prop} {r3 : D → D → Mp → DK → Prop} (hpe : PE X (.Call (.Attribute o name apos) [e] [] pos) (tBM X.K "str" r (dn X.K to) (tCons (dn X.K te) tNil)))
    (g : ∀ H M x y d e Q Q', RepM X.K H M → Dat X.K H d x → Dat X.K H e y → r3 d e M Q → (∀ v H', Post X.K M H Q v H' → Q' v H') → r x [y] H Q') : PE3 X (.Call (.Attribute o name apos) [e] [] pos) (tMt r3 to te) :=
  up hpe fun σ H ρ M Q r q => dn_of r q fun v H' d M' f dv r' ⟨⟨x, e1⟩, q⟩ => by
    subst e1
    obtain rfl := dat_str.mp dv
    exact ⟨rfl, dn_of r' q fun u H2 d2 M2 f2 du r2 q2 => g H2 M2 _ u _ d2 Q _ r2.mem (dat_str.mpr rfl) du q2 fun v H3 p => p.back (f.trans f2)⟩
def r3Starts : D → D → Mp → DK → Prop := fun d e M Q => ∃ x y, d = .str x ∧ e = .str y ∧ Q (.bl (Txt.startswith x y)) M
theorem q_starts (hpe : PE X (.Call (.Attribute o "startswith" apos) [e] [] pos) (tBM X.K "str" rStarts (dn X.K to) (tCons (dn X.K te) tNil))) : PE3 X (.Call (.Attribute o "startswith" apos) [e] [] pos) (tMt r3Starts to te) :=
  q_mt hpe fun H M x y d e Q Q' rm dx dy ⟨z, w, e1, e2, q⟩ k => by
    subst e1; subst e2
    obtain rfl := dat_str.mp dx
    obtain rfl := dat_str.mp dy
    exact ⟨z, w, rfl, rfl, k _ _ (post_self rm (dat_bl.mpr rfl) q)⟩
def r3Zfill : D → D → Mp → DK → Prop := fun d e M Q => ∃ x i, d = .str x ∧ e = .int i ∧ PadOk i = true ∧ Q (.str (Txt.zfill x i)) M
theorem q_zfill (hpe : PE X (.Call (.Attribute o "zfill" apos) [e] [] pos) (tBM X.K "str" rZfill (dn X.K to) (tCons (dn X.K te) tNil))) : PE3 X (.Call (.Attribute o "zfill" apos) [e] [] pos) (tMt r3Zfill to te) :=
  q_mt hpe fun H M x y d e Q Q' rm dx dy ⟨z, i, e1, e2, hp, q⟩ k => by
    subst e1; subst e2
    obtain rfl := dat_str.mp dx
    obtain rfl := dat_int.mp dy
    exact ⟨z, i, rfl, rfl, hp, k _ _ (post_self rm (dat_str.mpr rfl) q)⟩
theorem dats_strs {K : PySem.W.Frag} {H : Hp} : ∀ (l : List Str), Dats K H (l.map D.str) (l.map V.str)
  | [] => dats_nil.mpr rfl
  | x :: l => dats_cons.mpr ⟨.str x, l.map V.str, rfl, dat_str.mpr rfl, dats_strs l⟩
def r3Split : D → D → Mp → DK → Prop := fun d e M Q => ∃ x c, d = .str x ∧ e = .str ⟨#[c]⟩ ∧ x.length ≤ 1000 ∧ ∀ p, M p = none → Q (.ref p) (updM M p (.lst ((Txt.split x ⟨#[c]⟩).map D.str)))
theorem q_split (hpe : PE X (.Call (.Attribute o "split" apos) [e] [] pos) (tBM X.K "str" rSplit (dn X.K to) (tCons (dn X.K te) tNil))) : PE3 X (.Call (.Attribute o "split" apos) [e] [] pos) (tMt r3Split to te) :=
  q_mt hpe fun H M x y d e Q Q' rm dx dy ⟨z, c, e1, e2, hl, q⟩ k => by
    subst e1; subst e2
    obtain rfl := dat_str.mp dx
    obtain rfl := dat_str.mp dy
    exact ⟨z, c, rfl, rfl, hl, fun p hp => k _ _ ⟨.ref p, _, Fr.new hp fun _ hb => updM_ne hb, dat_ref.mpr rfl, rm.newL hp (dats_strs _), q p (rm.free hp)⟩⟩
end
end L3
namespace L2
open PySem PySem.Spec PyProof.Rows
def Its (x : Str) : It where
  go := fun i _ => i < x.cps.size
  yld := fun i H v H' => H' = H ∧ ∃ c, x.cps[i]? = some c ∧ v = .str ⟨#[c]⟩
  stop := fun i _ => x.cps.size ≤ i
theorem turn_ascii {P : Program} {w : World} {K : PySem.W.Frag} {tg : Expr} (x : Str) (t : Tok) (it : Addr) : Turn P w K tg (Its x) [it] it (fun i h => h.IsStrIter it "str_ascii_iterator" x t i) where
  mem := by simp
  obj := fun i h st b hb => by
    have e : b = it := by simpa using hb
    subst e
    obtain ⟨o, e, c, d⟩ := st
    exact ⟨o, e, fun v z => by rw [d] at z; cases z⟩
  keep := fun i h h' ⟨o, e, r⟩ k => ⟨o, k it (by simp) o e, r⟩
  item := by
    intro X hP hw hK hc i pins s σ H E I hf st hg
    subst hP hw hK
    have hx : x.cps[i]? = some x.cps[i] := Array.getElem?_eq_getElem hg
    obtain ⟨f0, f1, f2, f3, f4, f5⟩ := hf it (by simp)
    refine wpAny_pyNext_ascii_item st hx fun h' st' sb => ?_
    have I1 : Inv X pins σ H { s with heap := h', toks := s.toks + 1 } := I.turned (t' := s.toks + 1) (fun b o hb e => (sb.2 b hb).trans e) f0 f1 f3 f4 f5
    obtain ⟨o, e, c, d⟩ := id st'
    exact ⟨_, rfl, go_of (s := { s with heap := h', toks := s.toks + 1 }) e c d (by decide) ⟨.str ⟨#[x.cps[i]]⟩, H, I1, ⟨_, rfl⟩, ⟨rfl, _, hx, rfl⟩, st', fun b hb => (hf b hb).1⟩⟩
  done := by
    intro X hP hw hK hc i pins s σ H E I hf st hg
    subst hP hw hK
    obtain ⟨f0, f1, f2, f3, f4, f5⟩ := hf it (by simp)
    exact wpAny_pyNext_ascii_end (I.ok.hd hc) st (Array.getElem?_eq_none hg) fun h' eb => ⟨rfl, I.turned (t' := s.toks) (fun b o hb e => eb b o hb e) f0 f1 f3 f4 f5⟩
  self := fun _ _ _ _ _ st h => wpAny_pyIter_striter_ascii st h
theorem turn_wide {P : Program} {w : World} {K : PySem.W.Frag} {tg : Expr} (x : Str) (t : Tok) (it : Addr) : Turn P w K tg (Its x) [it] it (fun i h => h.IsStrIter it "str_iterator" x t i) where
  mem := by simp
  obj := fun i h st b hb => by
    have e : b = it := by simpa using hb
    subst e
    obtain ⟨o, e, c, d⟩ := st
    exact ⟨o, e, fun v z => by rw [d] at z; cases z⟩
  keep := fun i h h' ⟨o, e, r⟩ k => ⟨o, k it (by simp) o e, r⟩
  item := by
    intro X hP hw hK hc i pins s σ H E I hf st hg
    subst hP hw hK
    have hx : x.cps[i]? = some x.cps[i] := Array.getElem?_eq_getElem hg
    obtain ⟨f0, f1, f2, f3, f4, f5⟩ := hf it (by simp)
    refine wpAny_pyNext_wide_item st hx fun h' st' sb => ?_
    have I1 : Inv X pins σ H { s with heap := h', toks := s.toks + 1 } := I.turned (t' := s.toks + 1) (fun b o hb e => (sb.2 b hb).trans e) f0 f1 f3 f4 f5
    obtain ⟨o, e, c, d⟩ := id st'
    exact ⟨_, rfl, go_of (s := { s with heap := h', toks := s.toks + 1 }) e c d (by decide) ⟨.str ⟨#[x.cps[i]]⟩, H, I1, ⟨_, rfl⟩, ⟨rfl, _, hx, rfl⟩, st', fun b hb => (hf b hb).1⟩⟩
  done := by
    intro X hP hw hK hc i pins s σ H E I hf st hg
    subst hP hw hK
    obtain ⟨f0, f1, f2, f3, f4, f5⟩ := hf it (by simp)
    exact wpAny_pyNext_wide_end (I.ok.hd hc) st (Array.getElem?_eq_none hg) fun h' eb => ⟨rfl, I.turned (t' := s.toks) (fun b o hb e => eb b o hb e) f0 f1 f3 f4 f5⟩
  self := fun _ _ _ _ _ st h => wpAny_pyIter_striter_wide st h
section
variable {X : Cx} {tg : Expr}
def iStr (tl : TE) : TI := fun σ H R => tl σ H fun v H1 => ∃ x, v = .str x ∧ R (Its x) H1
theorem pi_str {l : Expr} {tl : TE} (hl : PE X l tl) : PI X tg l (iStr tl) := by
  intro pins s σ H R I h
  refine thn (hl pins s σ H _ I h) fun v s1 ⟨y, H1, I1, r1, x, e1, q⟩ => ?_
  subst e1
  obtain ⟨t, rfl⟩ := r1
  have fp : ∀ b ∈ [s1.heap.objs.size], FpOk X pins H1 b := fun b hb => by
    rw [List.mem_singleton.mp hb]
    exact I1.fpOk (Nat.le_refl _) (I1.hok.fresh (Nat.le_refl _))
  cases ha : x.cps.all (· < 128) with
  | true => exact wpAny_pyIter_ascii ha ⟨s1.heap.objs.size, [s1.heap.objs.size], _, _, H1, rfl, I1.kept (t' := s1.toks) fun b o e => Heap.get?_push_of_some _ e, turn_ascii x t _, ⟨_, Heap.get?_push_size _ rfl, rfl, rfl⟩, fp, q⟩
  | false => exact wpAny_pyIter_wide ha ⟨s1.heap.objs.size, [s1.heap.objs.size], _, _, H1, rfl, I1.kept (t' := s1.toks) fun b o e => Heap.get?_push_of_some _ e, turn_wide x t _, ⟨_, Heap.get?_push_size _ rfl, rfl, rfl⟩, fp, q⟩
end
end L2
namespace L3
open PySem PySem.Spec PyProof.Rows L2
def signsD (x : Str) : List D := x.cps.toList.map fun c => D.str ⟨#[c]⟩
theorem its_is {K : PySem.W.Frag} {x : Str} : ItIs K (Its x) (fun _ => True) (signsD x) :=
  ⟨fun i H hi _ => by show i < x.cps.size; simpa [signsD] using hi, fun i H v H' hi _ y => ⟨y.1, by
    obtain ⟨c, h1, h2⟩ := y.2
    refine ⟨.str ⟨#[c]⟩, ?_, dat_str.mpr h2⟩
    unfold signsD
    rw [List.getElem?_map, Array.getElem?_toList, h1]
    rfl⟩, fun H _ => by show x.cps.size ≤ _; simp [signsD]⟩
section
variable {X : Cx} {sc : Scope} {x : Str} {ys : List Str} {fs : List Nat} {elt iter : Expr} {px pos : Pos} {ifs : List Expr} {tt : TT3} {te : TE3} {ti : TE3}
def tLCS (fs : List Nat) (ti : TE3) (tt : TT3) (te : TE3) : TE3 := fun ρ M Q => ti ρ M fun d M1 => ∃ z, d = .str z ∧ z.length < sizeLine ∧ Hold (runLC (fun _ => True) tt te (frOf fs ρ) (wLC Q) (signsD z) [] M1)
theorem q_lcS (hc : X.calm = true) (hk : compChk X.env.scope X.N sc x ys fs = true) (hi : PE3 X iter ti) (ht : ∀ cl C s0 H0 ex, PL3 (blk X sc x ys cl C s0 H0 ex) ifs tt) (he : ∀ cl C s0 H0 ex, PE3 (blk X sc x ys cl C s0 H0 ex) elt te)
    (hs : ∀ z, foldedSetIterable iter X.env z = pure z := by intro _; rfl) : PC3 X sc x px ys fs iter ifs elt (tLCS fs ti tt te) := by
  constructor
  intro use Qs ps pos pins s σ H ρ M Q I r h fin
  refine lc_go (ρ := ρ) hc hk ht he hs I fin (pi_str hi.dn pins s σ H _ I (dn_of r h fun v H' d M' f dv r' ⟨z, e1, hz, q⟩ => ?_))
  subst e1
  obtain rfl := dat_str.mp dv
  exact ⟨z, rfl, M', _, signsD z, _, f, r', its_is, by simpa [signsD, Str.length] using hz, fun _ _ _ _ _ => trivial, q.out⟩
end
section
variable {X : Cx} {e v v1 v2 v3 : Expr} {te t1 t2 t3 : TE3} {pos : Pos}
theorem boot3_str : bootBuiltins "str" = some (.type "str") := by decide +kernel
theorem boot3_all : bootBuiltins "all" = some (.builtin "all") := by decide +kernel
theorem vals_bools : ∀ {bs : List Bool} {us : List Value}, Vals (bs.map V.bl) us → us = bs.map Value.bool
  | [], _, h => by cases h; rfl
  | b :: bs, _, h => by
    cases h with
    | cons r h => cases r; rw [vals_bools h]; rfl
theorem dats_bools {K : PySem.W.Frag} {H : Hp} : ∀ {bs : List Bool} {vs : List V}, Dats K H (bs.map D.bl) vs → vs = bs.map V.bl
  | [], vs, h => dats_nil.mp h
  | b :: bs, vs, h => by
    obtain ⟨v, vs', rfl, h1, h2⟩ := dats_cons.mp h
    rw [dat_bl.mp h1, dats_bools h2]
    rfl
theorem range_all_bools : ∀ bs : List Bool, ((List.range bs.length).all fun i => (bs[i]?).getD true) = bs.all id
  | [] => rfl
  | b :: bs => by
    rw [List.length_cons, List.range_succ_eq_map, List.all_cons, List.all_map, List.all_cons]
    have e : ((fun i => ((b :: bs)[i]?).getD true) ∘ Nat.succ) = fun i => (bs[i]?).getD true := by
      funext i; simp
    rw [e, range_all_bools bs]
    rfl
def rAll : List D → Mp → DK → Prop := fun ds M Q => ∃ (a : Addr) (bs : List Bool), ds = [.ref a] ∧ M a = some (.lst (bs.map D.bl)) ∧ Q (.bl (bs.all id)) M
theorem c_all (hc : X.calm = true) : Call3 X (.builtin "all") rAll := by
  constructor
  intro pins s σ H M xs ds us Q I rm rs dx ⟨a, bs, e1, hM, q⟩
  subst e1
  obtain ⟨v, rfl, hv⟩ := dats1 dx
  obtain rfl := dat_ref.mp hv
  obtain ⟨u, rfl, ru⟩ := vals1 rs
  obtain rfl : u = Value.ref a := ru
  obtain ⟨zs, h1, h2⟩ := rm.lst hM
  obtain rfl := dats_bools h2
  obtain ⟨its, rv, pl, hz⟩ := I.list (SqL.of (K := X.K) h1)
  obtain rfl := vals_bools rv
  have hl := pl.isList
  have hlt : a < s.heap.objs.size := by obtain ⟨_, e, _⟩ := hl; exact Heap.lt_size e
  refine call_all_walk (wpAny_pyIter_list hl ?_)
  refine ⟨s.heap.objs.size, [s.heap.objs.size, a], [s.heap.objs.size], (bs.map Value.bool).toArray.size, _, _, fun i => (bs[i]?).getD true, rfl, Walks.list (A := X.A.in1) (I.ok.hd hc) _ a (Nat.ne_of_lt hlt) (bs.map Value.bool).toArray,
    ⟨⟨_, Heap.get?_push_size _ rfl, rfl, rfl⟩, hl.push _⟩, fun i v s' Q' E' hP hQ => ?_, fun h' tk hk => ?_⟩
  · have hP : (bs.map Value.bool).toArray[i]? = some v := hP
    rw [List.getElem?_toArray, List.getElem?_map] at hP
    cases q' : bs[i]? with
    | none => rw [q'] at hP; cases hP
    | some b =>
      rw [q'] at hP
      obtain rfl := Option.some.inj hP
      simp only [q', Option.getD_some] at hQ
      exact wpAny_truthy_bool hQ
  · have e : ((List.range (bs.map Value.bool).toArray.size).all fun i => (bs[i]?).getD true) = bs.all id := by
      rw [List.size_toArray, List.length_map, range_all_bools]
    rw [e]
    have kp : ∀ b o, s.heap.get? b = some o → h'.get? b = some o := fun b o e => hk b o (fun hm => by
      rw [List.mem_singleton.mp hm] at e
      exact Nat.lt_irrefl _ (Heap.lt_size e)) (Heap.get?_push_of_some _ e)
    exact ⟨.bl _, H, I.kept (t' := tk) kp, rfl, post_self rm (dat_bl.mpr rfl) q⟩
def tFmt (te : TE3) : TE3 := fun ρ M Q => te ρ M fun d M1 => ∃ i : Int, d = .int i ∧ i.natAbs.log2 < 1920 ∧ Q (.str (Str.ofString (toString i))) M1
theorem q_fmt (he : PE3 X e te) : PE3 X (.FormattedValue e (-1) none pos) (tFmt te) := by
  constructor
  intro pins s σ H ρ M Q I r h
  refine wpAny_FormattedValue_plain (thn (he.run pins s σ H ρ M _ I r h) fun u s1 ⟨y, H1, I1, ry, d, M1, f1, dy, rm1, i, e1, hl, q⟩ => ?_)
  subst e1
  obtain rfl := dat_int.mp dy
  obtain ⟨t, rfl⟩ := ry
  exact wpAny_formatField_int hl ⟨.str (Str.ofString (toString i)), H1, I1.tok _, ⟨_, rfl⟩, .str _, M1, f1, dat_str.mpr rfl, rm1, q⟩
theorem q_js1 (h : PE3 X v te) : PE3 X (.JoinedStr [v] pos) te := ⟨fun pins s σ H ρ M Q I r q => wpAny_JoinedStr_one (h.run pins s σ H ρ M Q I r q)⟩
def tJs3 (t1 t2 t3 : TE3) : TE3 := fun ρ M Q => t1 ρ M fun d1 M1 => ∃ x, d1 = .str x ∧ x.length ≤ 1000 ∧ t2 ρ M1 fun d2 M2 => ∃ y, d2 = .str y ∧ y.length ≤ 1000 ∧ t3 ρ M2 fun d3 M3 => ∃ z, d3 = .str z ∧ z.length ≤ 1000 ∧ Q (.str (x ++ y ++ z)) M3
theorem empty_cat (x : Str) : Str.empty ++ x = x := Str.append_left_empty rfl
theorem len_cat (x y : Str) : (x ++ y).length = x.length + y.length := strLen_append x y
theorem q_js3 (h1 : PE3 X v1 t1) (h2 : PE3 X v2 t2) (h3 : PE3 X v3 t3) : PE3 X (.JoinedStr [v1, v2, v3] pos) (tJs3 t1 t2 t3) := by
  constructor
  intro pins s σ H ρ M Q I r q
  have big : 3000 ≤ sizeLine := by rw [sizeLine_eq]; decide
  refine JoinedStr_many (joinParts_cons (thn (h1.run pins s σ H ρ M _ I r q) fun u1 s1 ⟨w1, H1, I1, r1, d1, M1, f1, dd1, rm1, x, e1, l1, q1⟩ => ?_))
  subst e1
  obtain rfl := dat_str.mp dd1
  obtain ⟨k1, rfl⟩ := r1
  dsimp only
  rw [empty_cat]
  refine ⟨by omega, joinParts_cons (thn (h2.run pins s1 σ H1 ρ M1 _ I1 (r.go f1 rm1) q1) fun u2 s2 ⟨w2, H2, I2, r2, d2, M2, f2, dd2, rm2, y, e2, l2, q2⟩ => ?_)⟩
  subst e2
  obtain rfl := dat_str.mp dd2
  obtain ⟨k2, rfl⟩ := r2
  refine ⟨by rw [len_cat]; omega, joinParts_cons (thn (h3.run pins s2 σ H2 ρ M2 _ I2 ((r.go f1 rm1).go f2 rm2) q2) fun u3 s3 ⟨w3, H3, I3, r3, d3, M3, f3, dd3, rm3, z, e3, l3, q3⟩ => ?_)⟩
  subst e3
  obtain rfl := dat_str.mp dd3
  obtain ⟨k3, rfl⟩ := r3
  refine ⟨by rw [len_cat, len_cat]; omega, joinParts_nil ⟨.str (x ++ y ++ z), H3, I3.tok _, ⟨_, rfl⟩, .str _, M3, (f1.trans f2).trans f3, dat_str.mpr rfl, rm3, q3⟩ (by rw [len_cat, len_cat]; omega)⟩
theorem q_gS {x y : Str} {t : Tok} (hg : Gl X x) (hm : X.mg x = some (.str y t)) (hd : (x == ("__debug__" : Str)) = false := by decide) : PE3 X (.Name x pos) (tC3 (.str y)) :=
  up (pe_glob (v := .str y) hg hm ⟨t, rfl⟩ hd) fun _ _ _ _ _ r q => post_self r.mem (dat_str.mpr rfl) q
end
end L3
namespace L3
open PySem PySem.Spec PyProof.Rows L2
abbrev mkS (l : List Nat) : Str := ⟨l.toArray⟩
theorem mkS_of (x : Str) : mkS x.cps.toList = x := by obtain ⟨⟨l⟩⟩ := x; rfl
theorem toList_mkS (l : List Nat) : (mkS l).cps.toList = l := rfl
theorem len_mkS (l : List Nat) : (mkS l).length = l.length := by show l.toArray.size = _; rw [List.size_toArray]
theorem len_list (x : Str) : x.length = x.cps.toList.length := by show x.cps.size = _; simp
theorem cat_list (x y : Str) : (x ++ y).cps.toList = x.cps.toList ++ y.cps.toList := by
  show (x.cps ++ y.cps).toList = _
  rw [Array.toList_append]
theorem ix_none_some (k n : Nat) : Builtin.Str.strSliceIndices none (some (k : Int)) 1 n = Builtin.Str.strSliceIndices (some ((0 : Nat) : Int)) (some ((min k n : Nat) : Int)) 1 n := by
  unfold Builtin.Str.strSliceIndices
  have h1 : ¬ ((k : Int) < 0) := by omega
  have h2 : ¬ (((0 : Nat) : Int) < 0) := by omega
  have h3 : ¬ (((min k n : Nat) : Int) < 0) := by omega
  simp only [h1, h2, h3, if_false, show ((1 : Int) > 0) = True from by simp, if_true]
  congr 1 <;> omega
theorem ix_some_none (k n : Nat) : Builtin.Str.strSliceIndices (some (k : Int)) none 1 n = Builtin.Str.strSliceIndices (some ((min k n : Nat) : Int)) (some ((n : Nat) : Int)) 1 n := by
  unfold Builtin.Str.strSliceIndices
  have h1 : ¬ ((k : Int) < 0) := by omega
  have h2 : ¬ (((n : Nat) : Int) < 0) := by omega
  have h3 : ¬ (((min k n : Nat) : Int) < 0) := by omega
  simp only [h1, h2, h3, if_false, show ((1 : Int) > 0) = True from by simp, if_true]
  congr 1 <;> omega
theorem slice_gen (x : Str) (lo hi : Option Int) (l : List Nat) (h : (Builtin.Str.strSliceIndices lo hi 1 x.length).filterMap (x.cps[·]?) = l)
    (hf : (Builtin.Str.strSliceIndices lo hi 1 x.length).length = x.length → l = x.cps.toList) : Txt.slice x lo hi = mkS l := by
  unfold Txt.slice
  split
  · rename_i c
    rw [hf (by simpa using c), mkS_of]
  · rw [h]
theorem slice_take (x : Str) (k : Nat) : Txt.slice x none (some (k : Int)) = mkS (x.cps.toList.take k) := by
  have hl := len_list x
  refine slice_gen x _ _ _ ?_ fun c => ?_
  · rw [ix_none_some, PySem.StrLaws.sliced_plain x (Nat.zero_le _) (Nat.min_le_right _ _), List.drop_zero, Nat.sub_zero]
    by_cases hk : k ≤ x.length
    · rw [Nat.min_eq_left hk]
    · rw [Nat.min_eq_right (by omega), List.take_of_length_le (by omega), List.take_of_length_le (by omega)]
  · rw [ix_none_some, PySem.StrLaws.strSliceIndices_plain (Nat.zero_le _) (Nat.min_le_right _ _), List.length_map, List.length_range] at c
    exact List.take_of_length_le (by omega)
theorem slice_drop (x : Str) (k : Nat) : Txt.slice x (some (k : Int)) none = mkS (x.cps.toList.drop k) := by
  have hl := len_list x
  refine slice_gen x _ _ _ ?_ fun c => ?_
  · rw [ix_some_none, PySem.StrLaws.sliced_plain x (Nat.min_le_right _ _) (Nat.le_refl _)]
    by_cases hk : k ≤ x.length
    · rw [Nat.min_eq_left hk, List.take_of_length_le (by rw [List.length_drop]; omega)]
    · rw [Nat.min_eq_right (by omega), Nat.sub_self, List.take_zero, List.drop_of_length_le (by omega)]
  · rw [ix_some_none, PySem.StrLaws.strSliceIndices_plain (Nat.min_le_right _ _) (Nat.le_refl _), List.length_map, List.length_range] at c
    have : k = 0 ∨ x.length = 0 := by omega
    rcases this with z | z
    · rw [z, List.drop_zero]
    · have : x.cps.toList = [] := List.eq_nil_of_length_eq_zero (by omega)
      rw [this, List.drop_nil]
def begs (c : Nat) (l : List Nat) : Bool := match l with | [] => false | d :: _ => d == c
theorem starts_begs (x : Str) (c : Nat) : Txt.startswith x ⟨#[c]⟩ = begs c x.cps.toList := by
  obtain ⟨⟨l⟩⟩ := x
  cases l with
  | nil => rfl
  | cons d l =>
    unfold Txt.startswith Builtin.Str.subAt begs
    have h1 : decide (0 + (⟨#[c]⟩ : Str).length ≤ (⟨⟨d :: l⟩⟩ : Str).length) = true := by
      apply decide_eq_true
      show 0 + 1 ≤ (d :: l).length
      simp
    rw [h1, Bool.true_and]
    have h2 : ((⟨⟨d :: l⟩⟩ : Str).cps.extract 0 (0 + (⟨#[c]⟩ : Str).length)) = #[d] := by
      show ((d :: l).toArray.extract 0 1) = #[d]
      apply Array.toList_inj.mp
      simp
    rw [h2]
    show (#[d] == #[c]) = (d == c)
    simp
def sp : List Nat → List (List Nat)
  | [] => [[]]
  | c :: l => if c = 47 then [] :: sp l else match sp l with | [] => [[c]] | p :: ps => (c :: p) :: ps
theorem sp_free : ∀ {p : List Nat}, 47 ∉ p → sp p = [p]
  | [], _ => rfl
  | c :: p, h => by
    have h1 : c ≠ 47 := fun z => h (by rw [z]; exact List.mem_cons_self)
    have h2 := sp_free (p := p) fun z => h (List.mem_cons_of_mem _ z)
    simp only [sp, h1, if_false, h2]
theorem sp_app : ∀ {p : List Nat} (r : List Nat), 47 ∉ p → sp (p ++ 47 :: r) = p :: sp r
  | [], r, _ => by simp [sp]
  | c :: p, r, h => by
    have h1 : c ≠ 47 := fun z => h (by rw [z]; exact List.mem_cons_self)
    have h2 := sp_app (p := p) r fun z => h (List.mem_cons_of_mem _ z)
    rw [List.cons_append]
    simp only [sp, h1, if_false, h2]
theorem sp_ne (l : List Nat) : sp l ≠ [] := by
  cases l with
  | nil => simp [sp]
  | cons c l =>
    unfold sp
    split
    · simp
    · split <;> simp
theorem sp_minus (r : List Nat) : ∃ p ps, sp r = p :: ps ∧ sp (45 :: r) = (45 :: p) :: ps := by
  cases q : sp r with
  | nil => exact absurd q (sp_ne r)
  | cons p ps => exact ⟨p, ps, rfl, by simp [sp, q]⟩
theorem sp_join : ∀ (ps : List Str), ps ≠ [] → (∀ p ∈ ps, 47 ∉ p.cps.toList) → sp (Str.join ⟨#[47]⟩ ps).cps.toList = ps.map (·.cps.toList)
  | [], h, _ => absurd rfl h
  | [p], _, h => sp_free (h p (by simp))
  | p :: q :: ps, _, h => by
    have ih := sp_join (q :: ps) (by simp) fun z hz => h z (List.mem_cons_of_mem _ hz)
    show sp (p ++ ⟨#[47]⟩ ++ Str.join ⟨#[47]⟩ (q :: ps)).cps.toList = _
    rw [cat_list, cat_list]
    show sp (p.cps.toList ++ [47] ++ _) = _
    rw [List.append_assoc]
    show sp (p.cps.toList ++ 47 :: (Str.join ⟨#[47]⟩ (q :: ps)).cps.toList) = _
    rw [sp_app _ (h p (by simp)), ih]
    rfl
theorem split_sp (x : Str) : Txt.split x ⟨#[47]⟩ = (sp x.cps.toList).map mkS := by
  have h1 := split_pos x ⟨#[47]⟩
  have h2 := PySem.StrLaws.split_free x 47
  have h3 := sp_join (Txt.split x ⟨#[47]⟩) (fun z => by rw [z] at h1; simp at h1) h2
  rw [PySem.StrLaws.join_split] at h3
  rw [h3, List.map_map]
  conv => lhs; rw [← List.map_id (Txt.split x ⟨#[47]⟩)]
  exact List.map_congr_left fun p _ => (mkS_of p).symm
def isFig (c : Nat) : Bool := decide (48 ≤ c ∧ c ≤ 57)
def figs (l : List Nat) : Bool := decide (1 ≤ l.length) && decide (l.length ≤ 40) && l.all isFig
theorem mem_figures (c : Nat) : decide (c ∈ (Str.ofString "0123456789").cps.toList) = isFig c := by
  have e : (Str.ofString "0123456789").cps.toList = [48, 49, 50, 51, 52, 53, 54, 55, 56, 57] := by decide +kernel
  rw [e]
  unfold isFig
  rw [decide_eq_decide]
  simp only [List.mem_cons, List.not_mem_nil, or_false]
  omega
theorem figs_iff {l : List Nat} : figs l = true ↔ 1 ≤ l.length ∧ l.length ≤ 40 ∧ ∀ c ∈ l, 48 ≤ c ∧ c ≤ 57 := by
  unfold figs
  rw [Bool.and_eq_true, Bool.and_eq_true, decide_eq_true_eq, decide_eq_true_eq, List.all_eq_true, and_assoc]
  refine and_congr_right fun _ => and_congr_right fun _ => ?_
  refine forall_congr' fun c => imp_congr_right fun _ => ?_
  unfold isFig
  rw [decide_eq_true_eq]
def valT (l : List Nat) : Int := ((NumText.digitsVal l : Nat) : Int)
theorem int_figs {l : List Nat} (h : figs l = true) : PySem.intText? (mkS l) = some (valT l) := by
  obtain ⟨h1, h2, h3⟩ := figs_iff.mp h
  refine intText_digits (x := mkS l) (fun c hc => h3 c hc) (fun z => ?_) (by rw [len_mkS]; omega)
  have z : l = [] := z
  rw [z] at h1
  simp at h1
theorem int_minus {l : List Nat} (h : figs l = true) : PySem.intText? (mkS (45 :: l)) = some (-valT l) := by
  obtain ⟨h1, h2, h3⟩ := figs_iff.mp h
  refine intText_neg (x := mkS (45 :: l)) rfl (fun c hc => h3 c hc) (fun z => ?_) (by rw [len_mkS, List.length_cons]; omega)
  rw [z] at h1
  simp at h1
theorem digitsVal_lt : ∀ {l : List Nat}, (∀ c ∈ l, 48 ≤ c ∧ c ≤ 57) → ∀ a, l.foldl (fun acc c => acc * 10 + (c - 48)) a < (a + 1) * 10 ^ l.length
  | [], _, a => by simp
  | c :: l, h, a => by
    have hc := h c List.mem_cons_self
    have ih := digitsVal_lt (l := l) (fun d hd => h d (List.mem_cons_of_mem _ hd)) (a * 10 + (c - 48))
    rw [List.foldl_cons, List.length_cons, Nat.pow_succ]
    have : (a * 10 + (c - 48) + 1) * 10 ^ l.length ≤ ((a + 1) * 10) * 10 ^ l.length := Nat.mul_le_mul_right _ (by omega)
    calc _ < (a * 10 + (c - 48) + 1) * 10 ^ l.length := ih
      _ ≤ ((a + 1) * 10) * 10 ^ l.length := this
      _ = (a + 1) * (10 ^ l.length * 10) := by rw [Nat.mul_assoc, Nat.mul_comm 10]
theorem valT_range {l : List Nat} (h : figs l = true) : 0 ≤ valT l ∧ valT l < 10 ^ 40 := by
  obtain ⟨h1, h2, h3⟩ := figs_iff.mp h
  have a : NumText.digitsVal l < (0 + 1) * 10 ^ l.length := digitsVal_lt h3 0
  have b : 10 ^ l.length ≤ 10 ^ 40 := Nat.pow_le_pow_right (by decide) h2
  unfold valT
  refine ⟨by omega, ?_⟩
  have c : NumText.digitsVal l < 10 ^ 40 := by omega
  have d : ((NumText.digitsVal l : Nat) : Int) < ((10 ^ 40 : Nat) : Int) := by exact_mod_cast c
  simpa using d
def rs (l : List Nat) : List Nat := if begs 45 l = true then l.drop 1 else l
def due (l : List Nat) : Option (Int × Int) :=
  match sp (rs l) with
  | [p] => if figs p = true then some (if begs 45 l = true then -valT p else valT p, 1) else none
  | [p, q] => if (figs p && figs q && !decide (valT q = 0)) = true then some (if begs 45 l = true then -valT p else valT p, valT q) else none
  | _ => none
theorem due_range {l : List Nat} {a b : Int} (h : due l = some (a, b)) : 0 < b ∧ b < 10 ^ 40 ∧ -(10 ^ 40) < a ∧ a < 10 ^ 40 := by
  unfold due at h
  split at h
  · rename_i p hp
    split at h
    · rename_i hf
      have r := valT_range hf
      injection h with h
      injection h with e1 e2
      subst e2
      refine ⟨by decide, by decide, ?_, ?_⟩ <;> (rw [← e1]; split <;> omega)
    · cases h
  · rename_i p q hp
    split at h
    · rename_i hf
      rw [Bool.and_eq_true, Bool.and_eq_true] at hf
      have r := valT_range hf.1.1
      have r2 := valT_range hf.1.2
      have r3 : valT q ≠ 0 := by simpa using hf.2
      injection h with h
      injection h with e1 e2
      subst e2
      refine ⟨by omega, r2.2, ?_, ?_⟩ <;> (rw [← e1]; split <;> omega)
    · cases h
  · cases h
theorem sp_short {l p : List Nat} (h : p ∈ sp l) : p.length ≤ l.length := by
  have a : mkS p ∈ Txt.split (mkS l) ⟨#[47]⟩ := by
    rw [split_sp]
    exact List.mem_map.mpr ⟨p, h, rfl⟩
  have b := part_short a
  rwa [len_mkS, len_mkS] at b
theorem rs_len (l : List Nat) : (rs l).length ≤ l.length := by
  unfold rs
  split
  · rw [List.length_drop]; omega
  · exact Nat.le_refl _
theorem sp_top (l : List Nat) : ∃ P tp ps, sp l = P :: ps ∧ sp (rs l) = tp :: ps ∧ ((begs 45 l = true ∧ P = 45 :: tp) ∨ (begs 45 l = false ∧ P = tp)) := by
  cases hb : begs 45 l with
  | false =>
    cases q : sp l with
    | nil => exact absurd q (sp_ne l)
    | cons P ps =>
      refine ⟨P, P, ps, rfl, ?_, .inr ⟨rfl, rfl⟩⟩
      unfold rs
      rw [hb, if_neg Bool.false_ne_true, q]
  | true =>
    cases l with
    | nil => cases hb
    | cons c r =>
      obtain rfl : c = 45 := eq_of_beq hb
      obtain ⟨p, ps, h1, h2⟩ := sp_minus r
      refine ⟨_, p, ps, h2, ?_, .inl ⟨rfl, rfl⟩⟩
      unfold rs
      rw [hb, if_pos rfl]
      exact h1
theorem due_long {l : List Nat} (h : 2 < (sp (rs l)).length) : due l = none := by
  unfold due
  split
  · rename_i e; rw [e] at h; simp at h
  · rename_i e; rw [e] at h; simp at h
  · rfl
theorem due_bad {l p : List Nat} (h : p ∈ sp (rs l)) (hf : figs p = false) : due l = none := by
  unfold due
  split
  · rename_i q e
    rw [e] at h
    obtain rfl := List.mem_singleton.mp h
    rw [hf, if_neg Bool.false_ne_true]
  · rename_i q s e
    rw [e] at h
    rcases List.mem_cons.mp h with rfl | h
    · rw [hf, Bool.false_and, Bool.false_and, if_neg Bool.false_ne_true]
    · obtain rfl := List.mem_singleton.mp h
      rw [hf, Bool.and_false, Bool.false_and, if_neg Bool.false_ne_true]
  · rfl
theorem due_one {l p : List Nat} (h : sp (rs l) = [p]) (hf : figs p = true) : due l = some (if begs 45 l = true then -valT p else valT p, 1) := by
  unfold due
  rw [h]
  exact if_pos hf
theorem due_two {l p q : List Nat} (h : sp (rs l) = [p, q]) (hf : figs p = true) (hg : figs q = true) (hq : valT q ≠ 0) : due l = some (if begs 45 l = true then -valT p else valT p, valT q) := by
  unfold due
  rw [h]
  exact if_pos (by rw [hf, hg, decide_eq_false hq]; rfl)
theorem due_zero {l p q : List Nat} (h : sp (rs l) = [p, q]) (hq : valT q = 0) : due l = none := by
  unfold due
  rw [h]
  exact if_neg (by rw [decide_eq_true hq]; simp)
def dg (n : Nat) : List Nat := (Nat.toDigits 10 n).map Char.toNat
theorem shown_nat (n : Nat) : (Str.ofString (toString ((n : Nat) : Int))).cps.toList = dg n := PySem.W.KIN.signs_num n
theorem shown_neg (n : Nat) (h : 0 < n) : (Str.ofString (toString (-((n : Nat) : Int)))).cps.toList = 45 :: dg n := by
  obtain ⟨m, rfl⟩ : ∃ m, n = m + 1 := ⟨n - 1, by omega⟩
  have e : (-(((m + 1 : Nat)) : Int)) = Int.negSucc m := rfl
  rw [e, signs_ofString]
  show (("-" ++ Nat.repr (m + 1)).toList).map Char.toNat = _
  rw [String.toList_append, List.map_append, Nat.toList_repr]
  rfl
theorem dg_figs {n : Nat} (h : n < 10 ^ 40) : figs (dg n) = true := by
  refine figs_iff.mpr ⟨?_, ?_, fun c hc => ?_⟩
  · unfold dg
    rw [List.length_map]
    exact toDigits_len_ge 10 n
  · have a : (Str.ofString (toString ((n : Nat) : Int))).length ≤ 40 := toString_length_le (by omega) (by decide) (by exact_mod_cast h)
    rw [len_list, shown_nat] at a
    exact a
  · unfold dg at hc
    obtain ⟨ch, hch, e⟩ := List.mem_map.mp hc
    have r := digit_range (Nat.isDigit_of_mem_toDigits (by decide) (by decide) hch)
    rw [← e]
    exact r
theorem dg_val (n : Nat) : valT (dg n) = (n : Int) := by
  unfold valT dg
  rw [PySem.W.KIN.val_back]
theorem figs_free {l : List Nat} (h : figs l = true) : 47 ∉ l ∧ begs 45 l = false := by
  obtain ⟨h1, h2, h3⟩ := figs_iff.mp h
  refine ⟨fun z => by have := h3 47 z; omega, ?_⟩
  cases l with
  | nil => rfl
  | cons c l =>
    have := h3 c List.mem_cons_self
    show (c == 45) = false
    rw [beq_eq_false_iff_ne]
    omega
def sh (i : Int) : List Nat := (Str.ofString (toString i)).cps.toList
theorem sh_cases {a : Int} (h1 : -(10 ^ 40) < a) (h2 : a < 10 ^ 40) : ∃ n : Nat, figs (dg n) = true ∧ ((a = n ∧ sh a = dg n) ∨ (a = -n ∧ sh a = 45 :: dg n)) := by
  by_cases h : 0 ≤ a
  · obtain ⟨n, rfl⟩ := Int.eq_ofNat_of_zero_le h
    exact ⟨n, dg_figs (by omega), .inl ⟨rfl, shown_nat n⟩⟩
  · obtain ⟨n, hn⟩ := Int.eq_ofNat_of_zero_le (show 0 ≤ -a by omega)
    obtain rfl : a = -(n : Int) := by omega
    exact ⟨n, dg_figs (by omega), .inr ⟨rfl, shown_neg n (by omega)⟩⟩
theorem due_sh1 {a : Int} (h1 : -(10 ^ 40) < a) (h2 : a < 10 ^ 40) : due (sh a) = some (a, 1) := by
  obtain ⟨n, hf, ⟨e1, e2⟩ | ⟨e1, e2⟩⟩ := sh_cases h1 h2
  · obtain ⟨f1, f2⟩ := figs_free hf
    rw [e2, e1]
    unfold due rs
    simp only [f2, Bool.false_eq_true, if_false, sp_free f1, hf, if_true, dg_val]
  · obtain ⟨f1, f2⟩ := figs_free hf
    have b : begs 45 (45 :: dg n) = true := rfl
    rw [e2, e1]
    unfold due rs
    simp only [b, if_true, List.drop_succ_cons, List.drop_zero, sp_free f1, hf, dg_val]
theorem due_sh2 {a b : Int} (h1 : -(10 ^ 40) < a) (h2 : a < 10 ^ 40) (h3 : 0 < b) (h4 : b < 10 ^ 40) : due (sh a ++ 47 :: sh b) = some (a, b) := by
  obtain ⟨m, gf, ⟨g1, g2⟩ | ⟨g1, g2⟩⟩ := sh_cases (a := b) (by omega) h4
  · obtain ⟨f3, f4⟩ := figs_free gf
    have z : (!decide ((m : Int) = 0)) = true := by
      rw [decide_eq_false (by omega)]
      rfl
    obtain ⟨n, hf, ⟨e1, e2⟩ | ⟨e1, e2⟩⟩ := sh_cases h1 h2
    · obtain ⟨f1, f2⟩ := figs_free hf
      have bg : begs 45 (dg n ++ 47 :: dg m) = false := by
        cases q : dg n with
        | nil => rfl
        | cons c l => rw [q] at f2; exact f2
      rw [e2, e1, g2, g1]
      unfold due rs
      simp only [bg, Bool.false_eq_true, if_false, sp_app _ f1, sp_free f3, hf, gf, dg_val, z, Bool.and_self, if_true]
    · obtain ⟨f1, f2⟩ := figs_free hf
      have bg : begs 45 (45 :: (dg n ++ 47 :: dg m)) = true := rfl
      rw [e2, e1, g2, g1, List.cons_append]
      unfold due rs
      simp only [bg, if_true, List.drop_succ_cons, List.drop_zero, sp_app _ f1, sp_free f3, hf, gf, dg_val, z, Bool.and_self]
  · omega
theorem sh_len {a : Int} (h1 : -(10 ^ 50) ≤ a) (h2 : a ≤ 10 ^ 50) : (Str.ofString (toString a)).length ≤ 60 := by
  by_cases h : 0 ≤ a
  · exact Nat.le_trans (toString_length_le h (k := 51) (by decide) (by omega)) (by decide)
  · obtain ⟨n, hn⟩ := Int.eq_ofNat_of_zero_le (show 0 ≤ -a by omega)
    obtain rfl : a = -(n : Int) := by omega
    have e := shown_neg n (by omega)
    have l : (Str.ofString (toString ((n : Nat) : Int))).length ≤ 51 := toString_length_le (by omega) (by decide) (by omega)
    rw [len_list, shown_nat] at l
    rw [len_list, e, List.length_cons]
    omega
theorem sh_log {a : Int} (h1 : -(10 ^ 50) ≤ a) (h2 : a ≤ 10 ^ 50) : a.natAbs.log2 < 1920 := by
  have : a.natAbs < 2 ^ 200 := by
    have : (10 : Nat) ^ 50 < 2 ^ 200 := by decide +kernel
    omega
  by_cases h0 : a.natAbs = 0
  · rw [h0]; decide
  · exact Nat.lt_of_lt_of_le ((Nat.log2_lt h0).mpr this) (by decide)
theorem signs_get {x : Str} {i : Nat} {d : D} (h : (signsD x)[i]? = some d) : ∃ c, x.cps.toList[i]? = some c ∧ d = .str ⟨#[c]⟩ := by
  unfold signsD at h
  rw [List.getElem?_map] at h
  cases e : x.cps.toList[i]? with
  | none => rw [e] at h; cases h
  | some c => rw [e] at h; exact ⟨c, rfl, (Option.some.inj h).symm⟩
theorem take_one {α : Type} {l : List α} {i : Nat} {c : α} (h : l[i]? = some c) : l.take (i + 1) = l.take i ++ [c] := by
  rw [List.take_add_one, h]
  rfl
theorem signs_len (x : Str) : (signsD x).length = x.cps.toList.length := by unfold signsD; rw [List.length_map]
theorem rest_eq (x : Str) : eqD (.str (mkS (rs x.cps.toList))) (.str x) = !begs 45 x.cps.toList := by
  rw [eqD_str, Bool.eq_iff_iff, beq_iff_eq]
  unfold rs
  cases hb : begs 45 x.cps.toList with
  | false => rw [if_neg Bool.false_ne_true, mkS_of]; simp
  | true =>
    rw [if_pos rfl]
    refine ⟨fun z => ?_, fun z => by cases z⟩
    have z := congrArg (fun s : Str => s.cps.toList.length) z
    have z : (x.cps.toList.drop 1).length = x.cps.toList.length := z
    cases e : x.cps.toList with
    | nil => rw [e] at hb; cases hb
    | cons c l => rw [e] at z; simp at z
end L3
namespace Pf
open PySem L2 L3

def top (i : Nat) : Stmt := PySem.Challenge.pw_nearland_k91_numbers_written.main.body.getD i (.Pass ⟨0, 0, 0, 0⟩)
abbrev s__law_spoiled : Stmt := top 23
abbrev s__law_due : Stmt := top 24
abbrev s__law_lowest : Stmt := top 25
abbrev s_show_number : Stmt := top 17
abbrev s_show_point : Stmt := top 18
abbrev s__law_given : Stmt := top 20
abbrev s__law_figures : Stmt := top 21
abbrev s__law_text : Stmt := top 22
abbrev s_common_divisor : Stmt := top 10
abbrev s_sign : Stmt := top 9
abbrev s_fraction : Stmt := top 11
abbrev s_has_only : Stmt := top 14
abbrev s_is_figures : Stmt := top 15
abbrev s_read_number : Stmt := top 16
abbrev s__law_refused : Stmt := top 26
abbrev s__law_same : Stmt := top 27
abbrev s__law_shown : Stmt := top 28
abbrev s_law : Stmt := top 29
structure Ad where
  f__law_spoiled : Addr
  fd__law_spoiled : FuncData
  f__law_due : Addr
  fd__law_due : FuncData
  f__law_lowest : Addr
  fd__law_lowest : FuncData
  f_show_number : Addr
  fd_show_number : FuncData
  f_show_point : Addr
  fd_show_point : FuncData
  f__law_given : Addr
  fd__law_given : FuncData
  f__law_figures : Addr
  fd__law_figures : FuncData
  f__law_text : Addr
  fd__law_text : FuncData
  f_common_divisor : Addr
  fd_common_divisor : FuncData
  f_sign : Addr
  fd_sign : FuncData
  f_fraction : Addr
  fd_fraction : FuncData
  f_has_only : Addr
  fd_has_only : FuncData
  f_is_figures : Addr
  fd_is_figures : FuncData
  f_read_number : Addr
  fd_read_number : FuncData
  f__law_refused : Addr
  fd__law_refused : FuncData
  f__law_same : Addr
  fd__law_same : FuncData
  f__law_shown : Addr
  fd__law_shown : FuncData
  f_law : Addr
  fd_law : FuncData
  c_NearError : Addr
  c_NoNumber : Addr
  c_Flat : Addr
  c_Twice : Addr
  c_NoPlace : Addr
  c_Stiff : Addr
  c_Crossed : Addr
  k_FIGURES : Tok
structure Txt (K : PySem.W.Frag) (mg : Str → Option Value) (t : Ad) : Prop where
  F__law_spoiled : Fun K "_law_spoiled" "_law_spoiled" s__law_spoiled t.f__law_spoiled t.fd__law_spoiled
  m__law_spoiled : mg "_law_spoiled" = some (.ref t.f__law_spoiled)
  F__law_due : Fun K "_law_due" "_law_due" s__law_due t.f__law_due t.fd__law_due
  m__law_due : mg "_law_due" = some (.ref t.f__law_due)
  F__law_lowest : Fun K "_law_lowest" "_law_lowest" s__law_lowest t.f__law_lowest t.fd__law_lowest
  m__law_lowest : mg "_law_lowest" = some (.ref t.f__law_lowest)
  F_show_number : Fun K "show_number" "show_number" s_show_number t.f_show_number t.fd_show_number
  m_show_number : mg "show_number" = some (.ref t.f_show_number)
  F_show_point : Fun K "show_point" "show_point" s_show_point t.f_show_point t.fd_show_point
  m_show_point : mg "show_point" = some (.ref t.f_show_point)
  F__law_given : Fun K "_law_given" "_law_given" s__law_given t.f__law_given t.fd__law_given
  m__law_given : mg "_law_given" = some (.ref t.f__law_given)
  F__law_figures : Fun K "_law_figures" "_law_figures" s__law_figures t.f__law_figures t.fd__law_figures
  m__law_figures : mg "_law_figures" = some (.ref t.f__law_figures)
  F__law_text : Fun K "_law_text" "_law_text" s__law_text t.f__law_text t.fd__law_text
  m__law_text : mg "_law_text" = some (.ref t.f__law_text)
  F_common_divisor : Fun K "common_divisor" "common_divisor" s_common_divisor t.f_common_divisor t.fd_common_divisor
  m_common_divisor : mg "common_divisor" = some (.ref t.f_common_divisor)
  F_sign : Fun K "sign" "sign" s_sign t.f_sign t.fd_sign
  m_sign : mg "sign" = some (.ref t.f_sign)
  F_fraction : Fun K "fraction" "fraction" s_fraction t.f_fraction t.fd_fraction
  m_fraction : mg "fraction" = some (.ref t.f_fraction)
  F_has_only : Fun K "has_only" "has_only" s_has_only t.f_has_only t.fd_has_only
  m_has_only : mg "has_only" = some (.ref t.f_has_only)
  F_is_figures : Fun K "is_figures" "is_figures" s_is_figures t.f_is_figures t.fd_is_figures
  m_is_figures : mg "is_figures" = some (.ref t.f_is_figures)
  F_read_number : Fun K "read_number" "read_number" s_read_number t.f_read_number t.fd_read_number
  m_read_number : mg "read_number" = some (.ref t.f_read_number)
  F__law_refused : Fun K "_law_refused" "_law_refused" s__law_refused t.f__law_refused t.fd__law_refused
  m__law_refused : mg "_law_refused" = some (.ref t.f__law_refused)
  F__law_same : Fun K "_law_same" "_law_same" s__law_same t.f__law_same t.fd__law_same
  m__law_same : mg "_law_same" = some (.ref t.f__law_same)
  F__law_shown : Fun K "_law_shown" "_law_shown" s__law_shown t.f__law_shown t.fd__law_shown
  m__law_shown : mg "_law_shown" = some (.ref t.f__law_shown)
  F_law : Fun K "law" "law" s_law t.f_law t.fd_law
  m_law : mg "law" = some (.ref t.f_law)
  no_len : mg "len" = none
  no_int : mg "int" = none
  no_abs : mg "abs" = none
  no_str : mg "str" = none
  no_min : mg "min" = none
  no_all : mg "all" = none
  no_isinstance : mg "isinstance" = none
  no_ValueError : mg "ValueError" = none
  no_tuple : mg "tuple" = none
  no_bool : mg "bool" = none
  g_FIGURES : mg "FIGURES" = some (.str (Str.ofString "0123456789") t.k_FIGURES)
  mc_NearError : mg "NearError" = some (.ref t.c_NearError)
  mc_NoNumber : mg "NoNumber" = some (.ref t.c_NoNumber)
  mc_Flat : mg "Flat" = some (.ref t.c_Flat)
  mc_Twice : mg "Twice" = some (.ref t.c_Twice)
  mc_NoPlace : mg "NoPlace" = some (.ref t.c_NoPlace)
  mc_Stiff : mg "Stiff" = some (.ref t.c_Stiff)
  mc_Crossed : mg "Crossed" = some (.ref t.c_Crossed)
  X_NearError : XC K t.c_NearError
  X_NoNumber : XC K t.c_NoNumber
  sb : PySem.W.subIn K (.ref t.c_NoNumber) (.ref t.c_NearError) = some true
  kxV : PySem.W.kitOne K (.ref t.c_NoNumber) (.type "ValueError") = some true
  kx_NoNumber : PySem.W.kitOne K (.ref t.c_NoNumber) (.ref t.c_NoNumber) = some true
  kx_Flat : PySem.W.kitOne K (.ref t.c_NoNumber) (.ref t.c_Flat) = some false
  kx_Twice : PySem.W.kitOne K (.ref t.c_NoNumber) (.ref t.c_Twice) = some false
  kx_NoPlace : PySem.W.kitOne K (.ref t.c_NoNumber) (.ref t.c_NoPlace) = some false
  kx_Stiff : PySem.W.kitOne K (.ref t.c_NoNumber) (.ref t.c_Stiff) = some false
  kx_Crossed : PySem.W.kitOne K (.ref t.c_NoNumber) (.ref t.c_Crossed) = some false
theorem sc__law_spoiled : FnScope ["_law_text_here", "_law_how", "_law_place", "_law_sign", "_law_here", "_law_some"] ["_law_text_here", "_law_how", "_law_place", "_law_sign"] (defScope s__law_spoiled) := ⟨rfl, rfl, rfl, by decide +kernel, rfl, by decide +kernel, by decide +kernel⟩
theorem sc__law_due : FnScope ["_law_text_here", "_law_rest", "_law_parts", "_law_part", "_law_bottom"] ["_law_text_here"] (defScope s__law_due) := ⟨rfl, rfl, rfl, by decide +kernel, rfl, by decide +kernel, by decide +kernel⟩
theorem sc__law_lowest : FnScope ["_law_top", "_law_bottom", "_law_one", "_law_other"] ["_law_top", "_law_bottom"] (defScope s__law_lowest) := ⟨rfl, rfl, rfl, by decide +kernel, rfl, by decide +kernel, by decide +kernel⟩
theorem sc_show_number : FnScope ["one", "top", "bottom"] ["one"] (defScope s_show_number) := ⟨rfl, rfl, rfl, by decide +kernel, rfl, by decide +kernel, by decide +kernel⟩
theorem sc_show_point : FnScope ["X"] ["X"] (defScope s_show_point) := ⟨rfl, rfl, rfl, by decide +kernel, rfl, by decide +kernel, by decide +kernel⟩
theorem sc__law_given : FnScope ["_law_script", "_law_k"] ["_law_script", "_law_k"] (defScope s__law_given) := ⟨rfl, rfl, rfl, by decide +kernel, rfl, by decide +kernel, by decide +kernel⟩
theorem sc__law_figures : FnScope ["_law_cell", "_law_how", "_law_noughts", "_law_figures_here"] ["_law_cell", "_law_how", "_law_noughts"] (defScope s__law_figures) := ⟨rfl, rfl, rfl, by decide +kernel, rfl, by decide +kernel, by decide +kernel⟩
theorem sc__law_text : FnScope ["_law_script", "_law_how", "_law_text_here"] ["_law_script"] (defScope s__law_text) := ⟨rfl, rfl, rfl, by decide +kernel, rfl, by decide +kernel, by decide +kernel⟩
theorem sc_common_divisor : FnScope ["one", "other", "great", "small", "rest"] ["one", "other"] (defScope s_common_divisor) := ⟨rfl, rfl, rfl, by decide +kernel, rfl, by decide +kernel, by decide +kernel⟩
theorem sc_sign : FnScope ["number"] ["number"] (defScope s_sign) := ⟨rfl, rfl, rfl, by decide +kernel, rfl, by decide +kernel, by decide +kernel⟩
theorem sc_fraction : FnScope ["top", "bottom", "divisor"] ["top", "bottom"] (defScope s_fraction) := ⟨rfl, rfl, rfl, by decide +kernel, rfl, by decide +kernel, by decide +kernel⟩
theorem sc_has_only : FnScope ["text", "signs"] ["text", "signs"] (defScope s_has_only) := ⟨rfl, rfl, rfl, by decide +kernel, rfl, by decide +kernel, by decide +kernel⟩
theorem sc_is_figures : FnScope ["text"] ["text"] (defScope s_is_figures) := ⟨rfl, rfl, rfl, by decide +kernel, rfl, by decide +kernel, by decide +kernel⟩
theorem sc_read_number : FnScope ["text", "parts", "top", "bottom"] ["text"] (defScope s_read_number) := ⟨rfl, rfl, rfl, by decide +kernel, rfl, by decide +kernel, by decide +kernel⟩
theorem sc__law_refused : FnScope ["_law_text_here", "_law_found", "e", "_law_others"] ["_law_text_here"] (defScope s__law_refused) := ⟨rfl, rfl, rfl, by decide +kernel, rfl, by decide +kernel, by decide +kernel⟩
theorem sc__law_same : FnScope ["_law_found", "_law_due_here"] ["_law_found", "_law_due_here"] (defScope s__law_same) := ⟨rfl, rfl, rfl, by decide +kernel, rfl, by decide +kernel, by decide +kernel⟩
theorem sc__law_shown : FnScope ["_law_one"] ["_law_one"] (defScope s__law_shown) := ⟨rfl, rfl, rfl, by decide +kernel, rfl, by decide +kernel, by decide +kernel⟩
theorem sc_law : FnScope ["_law_script", "_law_text_here", "_law_written", "_law_due_here", "_law_other", "_law_told", "_law_point"] ["_law_script"] (defScope s_law) := ⟨rfl, rfl, rfl, by decide +kernel, rfl, by decide +kernel, by decide +kernel⟩

section
variable {P : Program} {w : World} {K : PySem.W.Frag} {mg : Str → Option Value} {base : Heap} {t : Ad}
theorem bd__law_spoiled (T : Txt K mg t) : Binds K t.fd__law_spoiled ["_law_text_here", "_law_how", "_law_place", "_law_sign"] [] := T.F__law_spoiled.binds fun _ _ _ _ _ _ us hl => match us, hl with | [_, _, _, _], _ => rfl
def S__law_spoiled : SpP := fun ds Q => ∃ (x : Str) (i j k : Int), ds = [.str x, .int i, .int j, .int k] ∧ x.length ≤ 100 ∧ ∀ y : Str, y.length ≤ 300 → Q (.str y)
theorem ok__law_spoiled (T : Txt K mg t) : FnOk P w K mg base CX0 1 t.f__law_spoiled t.fd__law_spoiled ["_law_text_here", "_law_how", "_law_place", "_law_sign"] (spP K S__law_spoiled) := by
  refine fnP T.F__law_spoiled sc__law_spoiled (fun ds Q h => by (first | (obtain ⟨_, rfl, _⟩ := h; rfl) | (obtain ⟨_, _, rfl, _⟩ := h; rfl) | (obtain ⟨_, _, _, rfl, _⟩ := h; rfl) | (obtain ⟨_, _, _, _, rfl, _⟩ := h; rfl) | (obtain ⟨_, _, _, _, _, rfl, _⟩ := h; rfl) | (obtain ⟨_, _, _, _, _, _, rfl, _⟩ := h; rfl) | (obtain ⟨_, _, _, _, _, _, _, rfl, _⟩ := h; rfl))) (fun cdv A outer s H hr => ?_)
  have hu := hr.units
  refine ⟨_, (b_cons (s_set (i := 4) sc__law_spoiled.nd rfl (Or.inl rfl) (q_bin o_mod (q_var 2) (q_bin o_add (q_blt c_lenS (by rfl) T.no_len boot3_len (a_cons (q_var 0) a_nil)) q_int)))
      (b_cons (s_set (i := 5) sc__law_spoiled.nd rfl (Or.inl rfl) (q_ixS q_str (q_bin o_mod (q_var 3) q_int)))
      (b_cons (s_if (k_cmp (o_eq hu) (q_bin o_mod (q_var 1) q_int) q_int (nomark _)) (b_one (s_ret (q_bin o_catS (q_bin o_catS (q_sliceS (q_var 0) p_no (p_some (q_var 4))) (q_var 5)) (q_sliceS (q_var 0) (p_some (q_var 4)) p_no)))) b_nil)
      (b_cons (s_if (k_cmp (o_eq hu) (q_bin o_mod (q_var 1) q_int) q_int (nomark _)) (b_one (s_ret (q_bin o_catS (q_sliceS (q_var 0) p_no (p_some (q_var 4))) (q_sliceS (q_var 0) (p_some (q_bin o_add (q_var 4) q_int)) p_no)))) b_nil)
      (b_cons (s_if (k_cmp (o_eq hu) (q_bin o_mod (q_var 1) q_int) q_int (nomark _)) (b_one (s_ret (q_bin o_catS (q_bin o_catS (q_sliceS (q_var 0) p_no (p_some (q_var 4))) (q_var 5)) (q_sliceS (q_var 0) (p_some (q_bin o_add (q_var 4) q_int)) p_no)))) b_nil)
      (b_cons (s_if (k_cmp (o_eq hu) (q_bin o_mod (q_var 1) q_int) q_int (nomark _)) (b_one (s_ret (q_bin o_catS (q_var 5) (q_var 0)))) b_nil)
      (b_one (s_ret (q_var 0))))))))), fun ds Q h => ?_⟩
  obtain ⟨x, i, j, k, rfl, hx, h⟩ := h
  have hz : (1000 : Nat) < sizeLine := by decide
  have sl : ∀ lo hi, (Txt.slice x lo hi).length ≤ 100 := fun lo hi => Nat.le_trans (Txt.slice_le x lo hi) hx
  have ct : ∀ {a b : Str} {m n : Nat}, a.length ≤ m → b.length ≤ n → (a ++ b).length ≤ m + n := fun ha hb => by rw [len_cat]; omega
  have one : ∀ c : Nat, (⟨#[c]⟩ : Str).length ≤ 1 := fun c => Nat.le_refl 1
  have hlen : (Str.ofString "0123456789-+/ .,_aeEx:'").cps.toList.length = 23 := by decide +kernel
  have hk0 := Int.emod_nonneg k (show (23 : Int) ≠ 0 by decide)
  have hk1 := Int.emod_lt_of_pos k (show (0 : Int) < 23 by decide)
  obtain ⟨c, hc⟩ : ∃ c, atI (Str.ofString "0123456789-+/ .,_aeEx:'").cps.toList (k % 23) = some c := by
    have e : k % 23 = (((k % 23).toNat : Nat) : Int) := by omega
    rw [e]
    exact ⟨_, atI_nat (List.getElem?_eq_getElem (by rw [hlen]; omega))⟩
  walk_at "rd"
  refine ⟨by omega, ?_⟩
  walk_at "rd"
  refine ⟨_, _, c, rfl, rfl, by rw [len_list, hlen]; omega, hc, ?_⟩
  walk_at "rd"
  refine ite2 (fun _ => ?_) (fun _ => ?_)
  · walk_at "rd"
    refine ⟨by omega, ?_⟩
    walk_at "rd"
    refine ⟨Nat.le_trans (Nat.add_le_add (sl _ _) (one c)) (by omega), ?_⟩
    walk_at "rd"
    refine ⟨by omega, ?_⟩
    walk_at "rd"
    refine ⟨Nat.le_trans (Nat.add_le_add (ct (sl _ _) (one c)) (sl _ _)) (by omega), ?_⟩
    exact h _ (Nat.le_trans (ct (ct (sl _ _) (one c)) (sl _ _)) (by omega))
  walk_at "rd"
  refine ite2 (fun _ => ?_) (fun _ => ?_)
  · walk_at "rd"
    refine ⟨by omega, ?_⟩
    walk_at "rd"
    refine ⟨by omega, ?_⟩
    walk_at "rd"
    refine ⟨Nat.le_trans (Nat.add_le_add (sl _ _) (sl _ _)) (by omega), ?_⟩
    exact h _ (Nat.le_trans (ct (sl _ _) (sl _ _)) (by omega))
  walk_at "rd"
  refine ite2 (fun _ => ?_) (fun _ => ?_)
  · walk_at "rd"
    refine ⟨by omega, ?_⟩
    walk_at "rd"
    refine ⟨Nat.le_trans (Nat.add_le_add (sl _ _) (one c)) (by omega), ?_⟩
    walk_at "rd"
    refine ⟨by omega, ?_⟩
    walk_at "rd"
    refine ⟨Nat.le_trans (Nat.add_le_add (ct (sl _ _) (one c)) (sl _ _)) (by omega), ?_⟩
    exact h _ (Nat.le_trans (ct (ct (sl _ _) (one c)) (sl _ _)) (by omega))
  walk_at "rd"
  refine ite2 (fun _ => ?_) (fun _ => ?_)
  · walk_at "rd"
    refine ⟨Nat.le_trans (Nat.add_le_add (one c) hx) (by omega), ?_⟩
    exact h _ (Nat.le_trans (ct (one c) hx) (by omega))
  walk_at "rd"
  exact h _ (by omega)
theorem bd__law_due (T : Txt K mg t) : Binds K t.fd__law_due ["_law_text_here"] [] := T.F__law_due.binds fun _ _ _ _ _ _ us hl => match us, hl with | [_], _ => rfl
theorem take1_begs (l : List Nat) : eqD (.str (mkS (l.take 1))) (.str (Str.ofString "-")) = begs 45 l := by
  rw [eqD_str, show Str.ofString "-" = mkS [45] from by decide]
  cases l with
  | nil => decide
  | cons c l =>
    show (mkS [c] == mkS [45]) = (c == 45)
    rw [Bool.eq_iff_iff, beq_iff_eq, beq_iff_eq]
    refine ⟨fun z => ?_, fun z => by rw [z]⟩
    have z := congrArg (fun s : Str => s.cps.toList) z
    simpa using z
theorem empty_part (q : List Nat) : eqD (.str (mkS q)) (.str (Str.ofString "")) = decide (q = []) := by
  rw [eqD_str, show Str.ofString "" = mkS [] from by decide, Bool.eq_iff_iff, beq_iff_eq, decide_eq_true_eq]
  refine ⟨fun z => ?_, fun z => by rw [z]⟩
  have z := congrArg (fun s : Str => s.cps.toList) z
  simpa using z
def bads (q : List Nat) : List L3.D := (q.filter fun c => !isFig c).map fun c => L3.D.str ⟨#[c]⟩
theorem bads_plain (q : List Nat) : (bads q).all (L3.plain 9) = true := by
  unfold bads
  rw [List.all_map, List.all_eq_true]
  intro c _
  rfl
theorem bads_nil (q : List Nat) : eqDs (bads q) [] = q.all isFig := by
  have e : eqDs (bads q) [] = (bads q).isEmpty := by
    cases bads q with
    | nil => simp [eqDs]
    | cons d ds => simp [eqDs]
  rw [e, Bool.eq_iff_iff, List.isEmpty_iff, List.all_eq_true]
  unfold bads
  rw [List.map_eq_nil_iff, List.filter_eq_nil_iff]
  simp
theorem bads_snoc (l : List Nat) (c : Nat) : bads (l ++ [c]) = if isFig c = true then bads l else bads l ++ [L3.D.str ⟨#[c]⟩] := by
  unfold bads
  rw [List.filter_append, List.map_append]
  cases e : isFig c with
  | true => simp [e]
  | false => simp [e]
def dueD (l : List Nat) : L3.D := match due l with | none => .non | some (a, b) => .tup [.int a, .int b]
def S__law_due : SpP := fun ds Q => ∃ x : Str, ds = [.str x] ∧ x.length ≤ 1000 ∧ Q (dueD x.cps.toList)
theorem ok__law_due (T : Txt K mg t) : FnOk P w K mg base CX0 1 t.f__law_due t.fd__law_due ["_law_text_here"] (spP K S__law_due) := by
  refine fnP T.F__law_due sc__law_due (fun ds Q h => by (first | (obtain ⟨_, rfl, _⟩ := h; rfl) | (obtain ⟨_, _, rfl, _⟩ := h; rfl) | (obtain ⟨_, _, _, rfl, _⟩ := h; rfl) | (obtain ⟨_, _, _, _, rfl, _⟩ := h; rfl) | (obtain ⟨_, _, _, _, _, rfl, _⟩ := h; rfl) | (obtain ⟨_, _, _, _, _, _, rfl, _⟩ := h; rfl) | (obtain ⟨_, _, _, _, _, _, _, rfl, _⟩ := h; rfl))) (fun cdv A outer s H hr => ?_)
  have hu := hr.units
  refine ⟨_, (b_cons (s_set (i := 1) sc__law_due.nd rfl (Or.inl rfl) (q_var 0))
      (b_cons (s_ifJ (k_cmp (o_eq hu) (q_sliceS (q_var 0) p_no (p_some q_int)) q_str (nomark _)) (b_one (s_set (i := 1) sc__law_due.nd rfl (Or.inl rfl) (q_sliceS (q_var 0) (p_some q_int) p_no))))
      (b_cons (s_set (i := 2) sc__law_due.nd rfl (Or.inl rfl) (q_split (to := _) (te := _) (pe_bm PySem.F.plainAttrs_str PySem.F.slot_str_split PySem.F.type_str_split mt_split (PE3.dn (q_var 1)) (pa_cons (PE3.dn q_str) pa_nil))))
      (b_cons (s_if (k_cmp o_gt (q_blt c_len (by rfl) T.no_len boot3_len (a_cons (q_var 2) a_nil)) q_int (nomark _)) (b_one (s_ret q_non)) b_nil)
      (b_cons (s_forL PassesOwn.never rfl (q_var 2) (g_name (i := 3) sc__law_due.nd rfl (Or.inl rfl)) (b_one (s_if (PW3.pt (k_or (k_cmp (o_eq hu) (q_var 3) q_str (nomark _)) (k_or (k_cmp o_gt (q_blt c_lenS (by rfl) T.no_len boot3_len (a_cons (q_var 3) a_nil)) q_int (nomark _)) (k_or1 (k_cmp (o_neLL hu) (q_lc (q_lcS (ys := []) (fs := []) rfl (by show compChk (defScope s__law_due) ["_law_text_here", "_law_rest", "_law_parts", "_law_part", "_law_bottom"] _ _ _ _ = true; decide +kernel) (q_var 3) (fun cl C s0 H0 ex => l_one (k_cmp o_notInS (q_var 0) q_str (by with_unfolding_all rfl))) (fun cl C s0 H0 ex => (q_var 0)))) (q_lst a_nil) (nomark _)))))) (b_one (s_ret q_non)) b_nil)))
      (b_cons (s_set (i := 4) sc__law_due.nd rfl (Or.inl rfl) q_int)
      (b_cons (s_ifJ (k_cmp (o_eq hu) (q_blt c_len (by rfl) T.no_len boot3_len (a_cons (q_var 2) a_nil)) q_int (nomark _)) (b_one (s_set (i := 4) sc__law_due.nd rfl (Or.inl rfl) (q_typ c_intS (by rfl) T.no_int boot3_int (a_cons (q_ix (q_var 2) q_int) a_nil)))))
      (b_cons (s_if (k_cmp (o_eq hu) (q_var 4) q_int (nomark _)) (b_one (s_ret q_non)) b_nil)
      (b_cons (s_if (k_cmp (o_eq hu) (q_var 1) (q_var 0) (nomark _)) (b_one (s_ret (q_tup (a_cons (q_typ c_intS (by rfl) T.no_int boot3_int (a_cons (q_ix (q_var 2) q_int) a_nil)) (a_cons (q_var 4) a_nil))))) b_nil)
      (b_one (s_ret (q_tup (a_cons (q_neg (q_typ c_intS (by rfl) T.no_int boot3_int (a_cons (q_ix (q_var 2) q_int) a_nil))) (a_cons (q_var 4) a_nil)))))))))))))), fun ds Q h => ?_⟩
  obtain ⟨x, rfl, hl, h⟩ := h
  have hz : (1000 : Nat) < sizeLine := by decide
  have s47 : Str.ofString "/" = ⟨#[47]⟩ := by decide
  have hn := len_list x
  have rl := rs_len x.cps.toList
  walk_at "rd"
  refine ⟨fun ρ M' => ρ = [some (.str x), some (.str (mkS (rs x.cps.toList))), none, none, none] ∧ M' = noM, ?_, ?_⟩
  · walk_at "rd"
    refine ⟨by omega, ?_⟩
    rw [show Txt.slice x none (some 1) = mkS (x.cps.toList.take 1) from slice_take x 1]
    walk_at "rd"
    rw [take1_begs]
    cases hb : begs 45 x.cps.toList with
    | true =>
      refine iteT ?_
      walk_at "rd"
      refine ⟨by omega, ?_⟩
      rw [show Txt.slice x (some 1) none = mkS (x.cps.toList.drop 1) from slice_drop x 1]
      exact Hold.mk ⟨by unfold rs; rw [hb, if_pos rfl]; rfl, rfl⟩
    | false =>
      refine iteF ?_
      refine Hold.mk ⟨?_, rfl⟩
      unfold rs
      rw [hb, if_neg Bool.false_ne_true, mkS_of]
      rfl
  rintro ρ M' ⟨rfl, rfl⟩
  walk_at "rd"
  refine ⟨⟨_, rfl⟩, ?_⟩
  refine ⟨_, 47, rfl, congrArg L3.D.str s47, by rw [len_mkS]; omega, fun p hp => ?_⟩
  rw [split_sp, toList_mkS]
  obtain ⟨ps, eps⟩ : ∃ ps, ps = sp (rs x.cps.toList) := ⟨_, rfl⟩
  rw [← eps]
  have m0 : updM noM p (.lst ((ps.map mkS).map L3.D.str)) p = some (.lst ((ps.map mkS).map L3.D.str)) := updM_same
  generalize updM noM p (.lst ((ps.map mkS).map L3.D.str)) = M0 at *
  walk_at "rd"
  refine ⟨_, _, rfl, .inr (.inr ⟨p, rfl, m0⟩), ?_⟩
  walk_at "rd"
  refine ite2 (fun c => ?_) (fun c => ?_)
  · have c : (2 : Int) < ((ps.map mkS).map L3.D.str).length := of_decide_eq_true c
    rw [List.length_map, List.length_map] at c
    have e : dueD x.cps.toList = .non := by
      unfold dueD
      rw [due_long (by rw [← eps]; omega)]
    rw [e] at h
    walk_at "rd"
    exact h
  have c : ¬ (2 : Int) < ((ps.map mkS).map L3.D.str).length := fun z => c (decide_eq_true z)
  rw [List.length_map, List.length_map] at c
  walk_at "rd"
  have bad : ∀ q, q ∈ ps → figs q = false → Q .non := fun q hq hf => by
    have e : dueD x.cps.toList = .non := by
      unfold dueD
      rw [due_bad (by rw [← eps]; exact hq) hf]
    rw [e] at h
    exact h
  refine ⟨p, _, rfl, m0, runFor_inv (fun i ρ M' => M' p = some (.lst ((ps.map mkS).map L3.D.str)) ∧ (∃ y : Option L3.D, ρ = [some (.str x), some (.str (mkS (rs x.cps.toList))), some (.ref p), y, none]) ∧ ∀ q ∈ ps.take i, figs q = true) _ ?_ ?_ ⟨m0, ⟨_, rfl⟩, fun q hq => by simp at hq⟩⟩
  · rintro i d ρ M' N hx ⟨hM, ⟨y, rfl⟩, hall⟩ hN
    obtain ⟨q, hq, rfl⟩ : ∃ q, ps[i]? = some q ∧ d = .str (mkS q) := by
      rw [List.getElem?_map, List.getElem?_map] at hx
      cases e : ps[i]? with
      | none => rw [e] at hx; cases hx
      | some q => rw [e] at hx; exact ⟨q, rfl, (Option.some.inj hx).symm⟩
    have mq : q ∈ ps := List.mem_of_getElem? hq
    have lq : q.length ≤ 1000 := by
      have := sp_short (show q ∈ sp (rs x.cps.toList) by rw [← eps]; exact mq)
      omega
    refine ⟨hM, ?_⟩
    walk_at "rd"
    rw [empty_part]
    refine ite2 (c := decide (q = []) = true) (fun k => ?_) (fun k => ?_)
    · have k : q = [] := of_decide_eq_true k
      walk_at "rd"
      exact bad q mq (by rw [k]; rfl)
    have k : q ≠ [] := fun z => k (decide_eq_true z)
    walk_at "rd"
    refine ⟨by rw [len_mkS]; omega, ?_⟩
    walk_at "rd"
    refine ite2 (fun k2 => ?_) (fun k2 => ?_)
    · have k2 : (40 : Int) < (mkS q).length := of_decide_eq_true k2
      rw [len_mkS] at k2
      walk_at "rd"
      exact bad q mq (by unfold figs; rw [decide_eq_false (show ¬ q.length ≤ 40 by omega)]; simp)
    have k2 : ¬ (40 : Int) < (mkS q).length := fun z => k2 (decide_eq_true z)
    rw [len_mkS] at k2
    walk_at "rd"
    refine ⟨by rw [len_mkS]; omega, Hold.mk (runLC_inv (fun j acc M4 => M4 = M' ∧ acc = bads (q.take j)) _ ?_ ?_ ⟨rfl, rfl⟩)⟩
    · rintro j d acc M4 N2 hx2 ⟨rfl, rfl⟩ hN2
      obtain ⟨c, hc, rfl⟩ := signs_get hx2
      have hc : q[j]? = some c := hc
      refine ⟨trivial, ?_⟩
      walk_at "rd"
      rw [mem_figures]
      refine ite2 (c := (!isFig c) = true) (fun k3 => ?_) (fun k3 => ?_)
      · walk_at "rd"
        exact hN2 _ _ ⟨rfl, by rw [take_one hc, bads_snoc, if_neg (by simpa using k3)]⟩
      · exact hN2 _ _ ⟨rfl, by rw [take_one hc, bads_snoc, if_pos (by simpa using k3)]⟩
    rintro acc M4 ⟨rfl, rfl⟩
    refine ⟨trivial, fun u hu => ?_⟩
    rw [signs_len, toList_mkS, List.take_length]
    walk_at "rd"
    intro v hv
    refine ⟨_, _, L3.Lst.of (updM_old updM_same hv), L3.Lst.of updM_same, bads_plain _, rfl, ?_⟩
    rw [bads_nil]
    refine ⟨_, rfl, ?_⟩
    refine ite2 (c := (!q.all isFig) = true) (fun k3 => ?_) (fun k3 => ?_)
    · walk_at "rd"
      exact bad q mq (by unfold figs; rw [show q.all isFig = false from by simpa using k3, Bool.and_false])
    · have fq : figs q = true := by
        unfold figs
        have : 1 ≤ q.length := by
          cases q with
          | nil => exact absurd rfl k
          | cons _ _ => simp
        rw [decide_eq_true this, decide_eq_true (show q.length ≤ 40 by omega), show q.all isFig = true from by simpa using k3]
        rfl
      refine hN _ _ ⟨updM_old (updM_old hM hu) hv, ⟨_, rfl⟩, fun z hz => ?_⟩
      rw [take_one hq] at hz
      rcases List.mem_append.mp hz with hz | hz
      · exact hall z hz
      · rw [List.mem_singleton.mp hz]; exact fq
  rintro ρ M' ⟨hM, ⟨y, rfl⟩, hall⟩
  refine ⟨hM, ?_⟩
  rw [List.length_map, List.length_map, List.take_length] at hall
  have shape : (∃ q, ps = [q]) ∨ ∃ q r, ps = [q, r] := by
    match ps, eps, c with
    | [], eps, _ => exact absurd eps.symm (sp_ne _)
    | [q], _, _ => exact .inl ⟨q, rfl⟩
    | [q, r], _, _ => exact .inr ⟨q, r, rfl⟩
    | _ :: _ :: _ :: _, _, c => exact absurd c (by simp; omega)
  rcases shape with ⟨q, rfl⟩ | ⟨q, r, rfl⟩
  · have hf := hall q (by simp)
    have tq := figs_iff.mp hf
    have e : dueD x.cps.toList = .tup [.int (if begs 45 x.cps.toList = true then -valT q else valT q), .int 1] := by
      unfold dueD
      rw [due_one eps.symm hf]
    rw [e] at h
    walk_at "rd"
    refine ⟨fun ρ M4 => ρ = [some (.str x), some (.str (mkS (rs x.cps.toList))), some (.ref p), y, some (.int 1)] ∧ M4 = M', ?_, ?_⟩
    · walk_at "rd"
      refine ⟨_, _, rfl, .inr (.inr ⟨p, rfl, hM⟩), ?_⟩
      walk_at "rd"
      exact Hold.mk ⟨rfl, rfl⟩
    rintro ρ M4 ⟨rfl, rfl⟩
    walk_at "rd"
    rw [rest_eq]
    cases hb : begs 45 x.cps.toList with
    | false =>
      rw [hb, if_neg Bool.false_ne_true] at h
      walk_at "rd"
      refine ⟨_, _, _, .inr (.inr ⟨p, rfl, hM⟩), rfl, atI_nat (j := 0) rfl, ?_⟩
      refine ⟨_, _, rfl, int_figs hf, by rw [len_mkS]; omega, ?_⟩
      walk_at "rd"
      exact h
    | true =>
      rw [hb, if_pos rfl] at h
      walk_at "rd"
      refine ⟨_, _, _, .inr (.inr ⟨p, rfl, hM⟩), rfl, atI_nat (j := 0) rfl, ?_⟩
      refine ⟨_, _, rfl, int_figs hf, by rw [len_mkS]; omega, ?_⟩
      walk_at "rd"
      exact h
  · have hf := hall q (by simp)
    have hg := hall r (by simp)
    have tq := figs_iff.mp hf
    have tr := figs_iff.mp hg
    walk_at "rd"
    refine ⟨fun ρ M4 => ρ = [some (.str x), some (.str (mkS (rs x.cps.toList))), some (.ref p), y, some (.int (valT r))] ∧ M4 = M', ?_, ?_⟩
    · walk_at "rd"
      refine ⟨_, _, rfl, .inr (.inr ⟨p, rfl, hM⟩), ?_⟩
      walk_at "rd"
      refine ⟨_, _, _, .inr (.inr ⟨p, rfl, hM⟩), rfl, atI_nat (j := 1) rfl, ?_⟩
      refine ⟨_, _, rfl, int_figs hg, by rw [len_mkS]; omega, ?_⟩
      exact Hold.mk ⟨rfl, rfl⟩
    rintro ρ M4 ⟨rfl, rfl⟩
    walk_at "rd"
    refine ite2 (c := eqD (.int (valT r)) (.int 0) = true) (fun k => ?_) (fun k => ?_)
    · rw [eqD_int] at k
      have k : valT r = 0 := eq_of_beq k
      have e : dueD x.cps.toList = .non := by
        unfold dueD
        rw [due_zero eps.symm k]
      rw [e] at h
      walk_at "rd"
      exact h
    rw [eqD_int] at k
    have k : valT r ≠ 0 := fun z => k (by rw [z]; rfl)
    have e : dueD x.cps.toList = .tup [.int (if begs 45 x.cps.toList = true then -valT q else valT q), .int (valT r)] := by
      unfold dueD
      rw [due_two eps.symm hf hg k]
    rw [e] at h
    walk_at "rd"
    rw [rest_eq]
    cases hb : begs 45 x.cps.toList with
    | false =>
      rw [hb, if_neg Bool.false_ne_true] at h
      walk_at "rd"
      refine ⟨_, _, _, .inr (.inr ⟨p, rfl, hM⟩), rfl, atI_nat (j := 0) rfl, ?_⟩
      refine ⟨_, _, rfl, int_figs hf, by rw [len_mkS]; omega, ?_⟩
      walk_at "rd"
      exact h
    | true =>
      rw [hb, if_pos rfl] at h
      walk_at "rd"
      refine ⟨_, _, _, .inr (.inr ⟨p, rfl, hM⟩), rfl, atI_nat (j := 0) rfl, ?_⟩
      refine ⟨_, _, rfl, int_figs hf, by rw [len_mkS]; omega, ?_⟩
      walk_at "rd"
      exact h
theorem bd__law_lowest (T : Txt K mg t) : Binds K t.fd__law_lowest ["_law_top", "_law_bottom"] [] := T.F__law_lowest.binds fun _ _ _ _ _ _ us hl => match us, hl with | [_, _], _ => rfl
def S__law_lowest : SpP := fun ds Q => ∃ (a b : Int) (n : Nat), ds = [.int a, .int b] ∧ 0 < b ∧ Sm n a ∧ Sm n b ∧ n ≤ 7000 ∧ Q (low a b).d
theorem ok__law_lowest (T : Txt K mg t) : FnOk P w K mg base CX0 1 t.f__law_lowest t.fd__law_lowest ["_law_top", "_law_bottom"] (spP K S__law_lowest) := by
  refine fnP T.F__law_lowest sc__law_lowest (fun ds Q h => by (first | (obtain ⟨_, rfl, _⟩ := h; rfl) | (obtain ⟨_, _, rfl, _⟩ := h; rfl) | (obtain ⟨_, _, _, rfl, _⟩ := h; rfl) | (obtain ⟨_, _, _, _, rfl, _⟩ := h; rfl) | (obtain ⟨_, _, _, _, _, rfl, _⟩ := h; rfl) | (obtain ⟨_, _, _, _, _, _, rfl, _⟩ := h; rfl) | (obtain ⟨_, _, _, _, _, _, _, rfl, _⟩ := h; rfl))) (fun cdv A outer s H hr => ?_)
  have hu := hr.units
  refine ⟨_, (b_cons (s_set (i := 2) sc__law_lowest.nd rfl (Or.inl rfl) (q_blt c_abs (by rfl) T.no_abs boot3_abs (a_cons (q_var 0) a_nil)))
      (b_cons (s_set (i := 3) sc__law_lowest.nd rfl (Or.inl rfl) (q_var 1))
      (b_cons (s_while PassesOwn.never (k_cmp o_gt (q_var 3) q_int (nomark _)) (b_one (s_par (i := 2) (j := 3) rfl sc__law_lowest.nd rfl rfl (by decide) rfl rfl (a_cons (q_var 3) (a_cons (q_bin o_mod (q_var 2) (q_var 3)) a_nil)))))
      (b_one (s_ret (q_tup (a_cons (q_bin o_fdiv (q_var 0) (q_var 2)) (a_cons (q_bin o_fdiv (q_var 1) (q_var 2)) a_nil)))))))), fun ds Q h => ?_⟩
  obtain ⟨a, b, n, rfl, hb, sa, sb, hn, h⟩ := h
  walk_at "rd"
  refine ⟨fun m ρ M => ∃ (c : Nat), ρ = [some (.int a), some (.int b), some (.int (c : Int)), some (.int (m : Int))] ∧ Nat.gcd m c = Int.gcd a b, ⟨b.natAbs, a.natAbs, ?_, ?_⟩, ?_⟩
  · have e : ((b.natAbs : Nat) : Int) = b := by omega
    rw [e]
    rfl
  · rw [Nat.gcd_comm]
    rfl
  rintro m ρ M ⟨c, rfl, hg⟩
  walk_at "rd"
  refine ite2 (fun k => ?_) (fun k => ?_)
  · have hm : (0 : Int) < m := of_decide_eq_true k
    walk_at "rd"
    have e : (c : Int) % (m : Int) = ((c % m : Nat) : Int) := by omega
    refine Hold.mk ⟨c % m, Nat.mod_lt _ (by omega), m, by rw [← e]; rfl, ?_⟩
    rw [← hg]
    exact (Nat.gcd_rec m c).symm
  · have hm : ¬ (0 : Int) < m := fun z => k (decide_eq_true z)
    obtain rfl : m = 0 := by omega
    rw [Nat.gcd_zero_left] at hg
    subst hg
    have hg : (Int.gcd a b : Nat) ≤ b.natAbs := Nat.le_of_dvd (by omega) (Int.gcd_dvd_natAbs_right a b)
    have sg : Sm n ((Int.gcd a b : Nat) : Int) := sb.of_abs (by omega)
    have hg0 : 0 < Int.gcd a b := Int.gcd_pos_of_ne_zero_right a (by omega)
    have sd : DivOk 0 ((Int.gcd a b : Nat) : Int) := ⟨by omega, n, sg, by omega⟩
    walk_at "rd"
    refine ⟨sd, ?_⟩
    walk_at "rd"
    refine ⟨sd, ?_⟩
    walk_at "rd"
    exact h
theorem bd_show_number (T : Txt K mg t) : Binds K t.fd_show_number ["one"] [] := T.F_show_number.binds fun _ _ _ _ _ _ us hl => match us, hl with | [_], _ => rfl
def shown (f : Pl) : Str := if f.y = 1 then Str.ofString (toString f.x) else Str.ofString (toString f.x) ++ Str.ofString "/" ++ Str.ofString (toString f.y)
def Fits (f : Pl) : Prop := -(10 ^ 50) ≤ f.x ∧ f.x ≤ 10 ^ 50 ∧ -(10 ^ 50) ≤ f.y ∧ f.y ≤ 10 ^ 50
def S_show_number : SpP := fun ds Q => ∃ f : Pl, ds = [f.d] ∧ Fits f ∧ Q (.str (shown f))
theorem ok_show_number (T : Txt K mg t) : FnOk P w K mg base CX0 1 t.f_show_number t.fd_show_number ["one"] (spP K S_show_number) := by
  refine fnP T.F_show_number sc_show_number (fun ds Q h => by (first | (obtain ⟨_, rfl, _⟩ := h; rfl) | (obtain ⟨_, _, rfl, _⟩ := h; rfl) | (obtain ⟨_, _, _, rfl, _⟩ := h; rfl) | (obtain ⟨_, _, _, _, rfl, _⟩ := h; rfl) | (obtain ⟨_, _, _, _, _, rfl, _⟩ := h; rfl) | (obtain ⟨_, _, _, _, _, _, rfl, _⟩ := h; rfl) | (obtain ⟨_, _, _, _, _, _, _, rfl, _⟩ := h; rfl))) (fun cdv A outer s H hr => ?_)
  have hu := hr.units
  refine ⟨_, (b_cons (s_set (i := 1) sc_show_number.nd rfl (Or.inl rfl) (q_ix (q_var 0) q_int))
      (b_cons (s_set (i := 2) sc_show_number.nd rfl (Or.inl rfl) (q_ix (q_var 0) q_int))
      (b_one (s_ret (q_if (k_cmp (o_eq hu) (q_var 2) q_int (nomark _)) (q_js1 (q_fmt (q_var 1))) (q_js3 (q_fmt (q_var 1)) q_str (q_fmt (q_var 2)))))))), fun ds Q h => ?_⟩
  obtain ⟨f, rfl, hf, h⟩ := h
  walk_at "rd"
  refine ite2 (c := eqD (.int f.y) (.int 1) = true) (fun c => ?_) (fun c => ?_)
  · rw [eqD_int] at c
    have c : f.y = 1 := eq_of_beq c
    walk_at "rd"
    refine ⟨sh_log hf.1 hf.2.1, ?_⟩
    have e : shown f = Str.ofString (toString f.x) := if_pos c
    rw [e] at h
    exact h
  · rw [eqD_int] at c
    have c : ¬ f.y = 1 := fun z => c (by rw [z]; rfl)
    walk_at "rd"
    refine ⟨sh_log hf.1 hf.2.1, ?_⟩
    walk_at "rd"
    refine ⟨Nat.le_trans (sh_len hf.1 hf.2.1) (by decide), ?_⟩
    walk_at "rd"
    refine ⟨sh_log hf.2.2.1 hf.2.2.2, ?_⟩
    walk_at "rd"
    refine ⟨Nat.le_trans (sh_len hf.2.2.1 hf.2.2.2) (by decide), ?_⟩
    have e : shown f = Str.ofString (toString f.x) ++ Str.ofString "/" ++ Str.ofString (toString f.y) := if_neg c
    rw [e] at h
    exact h
theorem bd_show_point (T : Txt K mg t) : Binds K t.fd_show_point ["X"] [] := T.F_show_point.binds fun _ _ _ _ _ _ us hl => match us, hl with | [_], _ => rfl
theorem shown_len {f : Pl} (h : Fits f) : (shown f).length ≤ 130 := by
  have a := sh_len h.1 h.2.1
  have b := sh_len h.2.2.1 h.2.2.2
  unfold shown
  split
  · omega
  · rw [len_cat, len_cat]
    have : (Str.ofString "/").length = 1 := by decide
    omega
def S_show_point : SpP := fun ds Q => ∃ f g : Pl, ds = [.tup [f.d, g.d]] ∧ Fits f ∧ Fits g ∧ Q (.str (shown f ++ Str.ofString "," ++ shown g))
theorem ok_show_point (T : Txt K mg t) : FnOk P w K mg base CX0 2 t.f_show_point t.fd_show_point ["X"] (spP K S_show_point) := by
  refine fnP T.F_show_point sc_show_point (fun ds Q h => by (first | (obtain ⟨_, rfl, _⟩ := h; rfl) | (obtain ⟨_, _, rfl, _⟩ := h; rfl) | (obtain ⟨_, _, _, rfl, _⟩ := h; rfl) | (obtain ⟨_, _, _, _, rfl, _⟩ := h; rfl) | (obtain ⟨_, _, _, _, _, rfl, _⟩ := h; rfl) | (obtain ⟨_, _, _, _, _, _, rfl, _⟩ := h; rfl) | (obtain ⟨_, _, _, _, _, _, _, rfl, _⟩ := h; rfl))) (fun cdv A outer s H hr => ?_)
  have hu := hr.units
  refine ⟨_, (b_one (s_ret (q_bin o_catS (q_bin o_catS (q_callP (ok_show_number T) (hr.mono (by decide)) (by rfl) T.m_show_number T.F_show_number.kp (bd_show_number T) (a_cons (q_ix (q_var 0) q_int) a_nil)) q_str) (q_callP (ok_show_number T) (hr.mono (by decide)) (by rfl) T.m_show_number T.F_show_number.kp (bd_show_number T) (a_cons (q_ix (q_var 0) q_int) a_nil))))), fun ds Q h => ?_⟩
  obtain ⟨f, g, rfl, hf, hg, h⟩ := h
  have hz : (1000 : Nat) < sizeLine := by decide
  have l1 := shown_len hf
  have l2 := shown_len hg
  have l3 : (Str.ofString ",").length = 1 := by decide
  walk_at "rd"
  refine ⟨hf, ?_⟩
  walk_at "rd"
  refine ⟨by omega, ?_⟩
  walk_at "rd"
  refine ⟨hg, ?_⟩
  walk_at "rd"
  refine ⟨by rw [len_cat]; omega, ?_⟩
  exact h
theorem bd__law_given (T : Txt K mg t) : Binds K t.fd__law_given ["_law_script", "_law_k"] [] := T.F__law_given.binds fun _ _ _ _ _ _ us hl => match us, hl with | [_, _], _ => rfl
def S__law_given : SpP := fun ds Q => ∃ (ns : List Int) (k : Int), ds = [.frl (ns.map L3.D.int), .int k] ∧ 0 ≤ k ∧ k ≤ 1000 ∧ ∀ v : Int, Q (.int v)
theorem ok__law_given (T : Txt K mg t) : FnOk P w K mg base CX0 1 t.f__law_given t.fd__law_given ["_law_script", "_law_k"] (spP K S__law_given) := by
  refine fnP T.F__law_given sc__law_given (fun ds Q h => by (first | (obtain ⟨_, rfl, _⟩ := h; rfl) | (obtain ⟨_, _, rfl, _⟩ := h; rfl) | (obtain ⟨_, _, _, rfl, _⟩ := h; rfl) | (obtain ⟨_, _, _, _, rfl, _⟩ := h; rfl) | (obtain ⟨_, _, _, _, _, rfl, _⟩ := h; rfl) | (obtain ⟨_, _, _, _, _, _, rfl, _⟩ := h; rfl) | (obtain ⟨_, _, _, _, _, _, _, rfl, _⟩ := h; rfl))) (fun cdv A outer s H hr => ?_)
  have hu := hr.units
  refine ⟨_, (b_cons (s_if (k_cmp (o_ltD hu) (q_var 1) (q_blt c_len (by rfl) T.no_len boot3_len (a_cons (q_var 0) a_nil)) (nomark _)) (b_one (s_ret (q_ix (q_var 0) (q_var 1)))) b_nil)
      (b_one (s_ret (q_bin o_mul (q_bin o_mul (q_bin o_add (q_var 1) q_int) (q_bin o_add (q_var 1) q_int)) q_int)))), fun ds Q h => ?_⟩
  obtain ⟨ns, k, rfl, hk, hk2, h⟩ := h
  walk_at "rd"
  refine ⟨_, _, rfl, .inr (.inl rfl), ?_⟩
  walk_at "rd"
  refine ite2 (fun c => ?_) (fun c => ?_)
  · have c : k < ((ns.map L3.D.int).length : Int) := of_decide_eq_true c
    rw [List.length_map] at c
    have hlt : k.toNat < ns.length := by omega
    walk_at "rd"
    refine ⟨_, k, .int (ns.getD k.toNat 0), .inr (.inl rfl), rfl, ?_, h _⟩
    have e : k = ((k.toNat : Nat) : Int) := by omega
    rw [e]
    refine atI_nat ?_
    rw [List.getElem?_map, List.getD_eq_getElem?_getD, List.getElem?_eq_getElem (by omega), ← e, List.getElem?_eq_getElem hlt]
    simp
  · have sk : Sm 10 k := by
      show k.natAbs < 2 ^ 10
      omega
    walk_at "rd"
    exact h _
theorem bd__law_figures (T : Txt K mg t) : Binds K t.fd__law_figures ["_law_cell", "_law_how", "_law_noughts"] [] := T.F__law_figures.binds fun _ _ _ _ _ _ us hl => match us, hl with | [_, _, _], _ => rfl
theorem pad_ok {i : Int} (h0 : 0 ≤ i) (h1 : i ≤ 40) : PadOk i = true := by
  have e1 : fitsSsize i = true := by unfold fitsSsize; simp; omega
  have e2 : Builtin.Str.tooLong i.toNat = false := by unfold Builtin.Str.tooLong; rw [sizeLine_eq]; simp; omega
  rw [show PadOk i = (fitsSsize i && !Builtin.Str.tooLong i.toNat) from rfl, e1, e2]
  rfl
def S__law_figures : SpP := fun ds Q => ∃ a b c : Int, ds = [.int a, .int b, .int c] ∧ ∀ x : Str, x.length ≤ 40 → Q (.str x)
theorem ok__law_figures (T : Txt K mg t) : FnOk P w K mg base CX0 1 t.f__law_figures t.fd__law_figures ["_law_cell", "_law_how", "_law_noughts"] (spP K S__law_figures) := by
  refine fnP T.F__law_figures sc__law_figures (fun ds Q h => by (first | (obtain ⟨_, rfl, _⟩ := h; rfl) | (obtain ⟨_, _, rfl, _⟩ := h; rfl) | (obtain ⟨_, _, _, rfl, _⟩ := h; rfl) | (obtain ⟨_, _, _, _, rfl, _⟩ := h; rfl) | (obtain ⟨_, _, _, _, _, rfl, _⟩ := h; rfl) | (obtain ⟨_, _, _, _, _, _, rfl, _⟩ := h; rfl) | (obtain ⟨_, _, _, _, _, _, _, rfl, _⟩ := h; rfl))) (fun cdv A outer s H hr => ?_)
  have hu := hr.units
  refine ⟨_, (b_cons (s_set (i := 3) sc__law_figures.nd rfl (Or.inl rfl) (q_typ c_strI (by rfl) T.no_str boot3_str (a_cons (q_bin o_mod (q_var 0) (q_ix (q_lst (a_cons (q_bin o_pow q_int q_int) (a_cons q_int (a_cons q_int (a_cons (q_bin o_pow q_int q_int) a_nil))))) (q_bin o_mod (q_var 1) q_int))) a_nil)))
      (b_one (s_ret (q_zfill (to := _) (te := _) (pe_bm PySem.F.plainAttrs_str PySem.F.slot_str_zfill PySem.F.type_str_zfill mt_zfill (PE3.dn (q_var 3)) (pa_cons (PE3.dn (q_blt (c_min2 rfl) (by rfl) T.no_min boot3_min (a_cons q_int (a_cons (q_bin o_add (q_blt c_lenS (by rfl) T.no_len boot3_len (a_cons (q_var 3) a_nil)) (q_bin o_mul (q_bin o_mod (q_var 2) q_int) (q_bin o_mod (q_var 2) q_int))) a_nil)))) pa_nil)))))), fun ds Q h => ?_⟩
  obtain ⟨a, b, c, rfl, h⟩ := h
  have hz : (1000 : Nat) < sizeLine := by decide
  walk_at "rd"
  intro p hp
  walk_at "rd"
  obtain ⟨m, hm, m0, m1⟩ : ∃ m : Int, atI [L3.D.int ((fun (i j : Int) => i ^ j.toNat) 10 40), .int 10, .int 100, .int ((fun (i j : Int) => i ^ j.toNat) 10 20)] (b % 4) = some (.int m) ∧ 0 < m ∧ m ≤ 10 ^ 40 := by
    have k : b % 4 = 0 ∨ b % 4 = 1 ∨ b % 4 = 2 ∨ b % 4 = 3 := by omega
    rcases k with k | k | k | k <;> rw [k]
    · exact ⟨_, rfl, by decide +kernel, by decide +kernel⟩
    · exact ⟨_, rfl, by decide +kernel, by decide +kernel⟩
    · exact ⟨_, rfl, by decide +kernel, by decide +kernel⟩
    · exact ⟨_, rfl, by decide +kernel, by decide +kernel⟩
  refine ⟨_, _, _, .inr (.inr ⟨p, rfl, updM_same⟩), rfl, hm, ?_⟩
  have a0 := Int.emod_nonneg a (show m ≠ 0 by omega)
  have a1 := Int.emod_lt_of_pos a m0
  walk_at "rd"
  refine ⟨sh_log (a := a % m) (by omega) (by omega), ?_⟩
  have l0 : (Str.ofString (toString (a % m))).length ≤ 40   := PyProof.Rows.toString_length_le a0 (by decide) (by omega)
  walk_at "rd"
  refine ⟨⟨_, rfl⟩, ?_⟩
  walk_at "rd"
  refine ⟨Nat.le_trans l0 (by omega), ?_⟩
  walk_at "rd"
  have c0 := Int.emod_nonneg c (show (3 : Int) ≠ 0 by decide)
  have c1 := Int.emod_nonneg c (show (40 : Int) ≠ 0 by decide)
  have c2 : 0 ≤ c % 3 * (c % 40) := Int.mul_nonneg c0 c1
  have k0 : 0 ≤ min 40 (((Str.ofString (toString (a % m))).length : Int) + c % 3 * (c % 40)) := by omega
  have k1 : min 40 (((Str.ofString (toString (a % m))).length : Int) + c % 3 * (c % 40)) ≤ 40 := by omega
  refine ⟨pad_ok k0 k1, h _ ?_⟩
  have e := PyProof.Rows.len_zfill (Str.ofString (toString (a % m))) (min 40 (((Str.ofString (toString (a % m))).length : Int) + c % 3 * (c % 40)))
  have q : ((Txt.zfill (Str.ofString (toString (a % m))) (min 40 (((Str.ofString (toString (a % m))).length : Int) + c % 3 * (c % 40)))).length : Int) ≤ 40 := by
    rw [e]
    split <;> omega
  exact Int.ofNat_le.mp q
theorem bd__law_text (T : Txt K mg t) : Binds K t.fd__law_text ["_law_script"] [] := T.F__law_text.binds fun _ _ _ _ _ _ us hl => match us, hl with | [_], _ => rfl
def S__law_text : SpP := fun ds Q => ∃ ns : List Int, ds = [.frl (ns.map L3.D.int)] ∧ ∀ x : Str, x.length ≤ 100 → Q (.str x)
theorem ok__law_text (T : Txt K mg t) : FnOk P w K mg base CX0 2 t.f__law_text t.fd__law_text ["_law_script"] (spP K S__law_text) := by
  refine fnP T.F__law_text sc__law_text (fun ds Q h => by (first | (obtain ⟨_, rfl, _⟩ := h; rfl) | (obtain ⟨_, _, rfl, _⟩ := h; rfl) | (obtain ⟨_, _, _, rfl, _⟩ := h; rfl) | (obtain ⟨_, _, _, _, rfl, _⟩ := h; rfl) | (obtain ⟨_, _, _, _, _, rfl, _⟩ := h; rfl) | (obtain ⟨_, _, _, _, _, _, rfl, _⟩ := h; rfl) | (obtain ⟨_, _, _, _, _, _, _, rfl, _⟩ := h; rfl))) (fun cdv A outer s H hr => ?_)
  have hu := hr.units
  refine ⟨_, (b_cons (s_set (i := 1) sc__law_text.nd rfl (Or.inl rfl) (q_callP (ok__law_given T) (hr.mono (by decide)) (by rfl) T.m__law_given T.F__law_given.kp (bd__law_given T) (a_cons (q_var 0) (a_cons q_int a_nil))))
      (b_cons (s_set (i := 2) sc__law_text.nd rfl (Or.inl rfl) (q_callP (ok__law_figures T) (hr.mono (by decide)) (by rfl) T.m__law_figures T.F__law_figures.kp (bd__law_figures T) (a_cons (q_callP (ok__law_given T) (hr.mono (by decide)) (by rfl) T.m__law_given T.F__law_given.kp (bd__law_given T) (a_cons (q_var 0) (a_cons q_int a_nil))) (a_cons (q_var 1) (a_cons (q_callP (ok__law_given T) (hr.mono (by decide)) (by rfl) T.m__law_given T.F__law_given.kp (bd__law_given T) (a_cons (q_var 0) (a_cons q_int a_nil))) a_nil)))))
      (b_cons (s_ifJ (k_cmp o_gt (q_bin o_mod (q_bin o_fdiv (q_var 1) q_int) q_int) q_int (nomark _)) (b_one (s_set (i := 2) sc__law_text.nd rfl (Or.inl rfl) (q_bin o_catS (q_bin o_catS (q_var 2) q_str) (q_callP (ok__law_figures T) (hr.mono (by decide)) (by rfl) T.m__law_figures T.F__law_figures.kp (bd__law_figures T) (a_cons (q_callP (ok__law_given T) (hr.mono (by decide)) (by rfl) T.m__law_given T.F__law_given.kp (bd__law_given T) (a_cons (q_var 0) (a_cons q_int a_nil))) (a_cons (q_bin o_fdiv (q_var 1) q_int) (a_cons (q_callP (ok__law_given T) (hr.mono (by decide)) (by rfl) T.m__law_given T.F__law_given.kp (bd__law_given T) (a_cons (q_var 0) (a_cons q_int a_nil))) a_nil))))))))
      (b_cons (s_ifJ (k_cmp (o_eq hu) (q_bin o_mod (q_bin o_fdiv (q_var 1) q_int) q_int) q_int (nomark _)) (b_one (s_set (i := 2) sc__law_text.nd rfl (Or.inl rfl) (q_bin o_catS q_str (q_var 2)))))
      (b_one (s_ret (q_var 2))))))), fun ds Q h => ?_⟩
  obtain ⟨ns, rfl, h⟩ := h
  have hz : (1000 : Nat) < sizeLine := by decide
  have l1 : (Str.ofString "/").length = 1 := by decide
  have l2 : (Str.ofString "-").length = 1 := by decide
  walk_at "rd"
  intro how
  walk_at "rd"
  intro v1
  walk_at "rd"
  intro v2
  walk_at "rd"
  intro x1 hx1
  walk_at "rd"
  refine ⟨fun ρ M' => ∃ x : Str, x.length ≤ 90 ∧ ρ = [some (.frl (ns.map L3.D.int)), some (.int how), some (.str x)], ?_, ?_⟩
  · walk_at "rd"
    refine ite2 (fun _ => ?_) (fun _ => ?_)
    · walk_at "rd"
      refine ⟨by omega, ?_⟩
      walk_at "rd"
      intro v3
      walk_at "rd"
      intro v4
      walk_at "rd"
      intro x2 hx2
      walk_at "rd"
      refine ⟨by rw [len_cat]; omega, ?_⟩
      exact Hold.mk ⟨_, by rw [len_cat, len_cat]; omega, rfl⟩
    · exact Hold.mk ⟨_, by omega, rfl⟩
  rintro ρ M' ⟨x, hx, rfl⟩
  walk_at "rd"
  refine ⟨fun ρ M' => ∃ x : Str, x.length ≤ 100 ∧ ρ = [some (.frl (ns.map L3.D.int)), some (.int how), some (.str x)], ?_, ?_⟩
  · walk_at "rd"
    refine ite2 (fun _ => ?_) (fun _ => ?_)
    · walk_at "rd"
      refine ⟨by omega, ?_⟩
      exact Hold.mk ⟨_, by rw [len_cat]; omega, rfl⟩
    · exact Hold.mk ⟨_, by omega, rfl⟩
  rintro ρ M' ⟨y, hy, rfl⟩
  walk_at "rd"
  exact h _ hy
theorem bd_common_divisor (T : Txt K mg t) : Binds K t.fd_common_divisor ["one", "other"] [] := T.F_common_divisor.binds fun _ _ _ _ _ _ us hl => match us, hl with | [_, _], _ => rfl
def S_common_divisor : SpP := fun ds Q => ∃ i j : Int, ds = [.int i, .int j] ∧ Q (.int (Int.gcd i j : Nat))
theorem ok_common_divisor (T : Txt K mg t) : FnOk P w K mg base CX0 1 t.f_common_divisor t.fd_common_divisor ["one", "other"] (spP K S_common_divisor) := by
  refine fnP T.F_common_divisor sc_common_divisor (fun ds Q h => by (first | (obtain ⟨_, rfl, _⟩ := h; rfl) | (obtain ⟨_, _, rfl, _⟩ := h; rfl) | (obtain ⟨_, _, _, rfl, _⟩ := h; rfl) | (obtain ⟨_, _, _, _, rfl, _⟩ := h; rfl) | (obtain ⟨_, _, _, _, _, rfl, _⟩ := h; rfl) | (obtain ⟨_, _, _, _, _, _, rfl, _⟩ := h; rfl) | (obtain ⟨_, _, _, _, _, _, _, rfl, _⟩ := h; rfl))) (fun cdv A outer s H hr => ?_)
  have hu := hr.units
  refine ⟨_, (b_cons (s_set (i := 2) sc_common_divisor.nd rfl (Or.inl rfl) (q_blt c_abs (by rfl) T.no_abs boot3_abs (a_cons (q_var 0) a_nil)))
      (b_cons (s_set (i := 3) sc_common_divisor.nd rfl (Or.inl rfl) (q_blt c_abs (by rfl) T.no_abs boot3_abs (a_cons (q_var 1) a_nil)))
      (b_cons (s_while PassesOwn.never (k_cmp (o_ne hu) (q_var 3) q_int (nomark _)) (b_cons (s_set (i := 4) sc_common_divisor.nd rfl (Or.inl rfl) (q_bin o_mod (q_var 2) (q_var 3)))
      (b_cons (s_set (i := 2) sc_common_divisor.nd rfl (Or.inl rfl) (q_var 3))
      (b_one (s_set (i := 3) sc_common_divisor.nd rfl (Or.inl rfl) (q_var 4))))))
      (b_one (s_ret (q_var 2)))))), fun ds Q h => ?_⟩
  obtain ⟨i, j, rfl, h⟩ := h
  walk_at "rd"
  refine ⟨fun m ρ M => ∃ (a : Nat) (r : Option L3.D), ρ = [some (.int i), some (.int j), some (.int (a : Int)), some (.int (m : Int)), r] ∧ Nat.gcd a m = Int.gcd i j, ⟨j.natAbs, i.natAbs, none, rfl, rfl⟩, ?_⟩
  rintro b ρ M ⟨a, r, rfl, hg⟩
  walk_at "rd"
  refine ite2 (fun c => ?_) (fun c => ?_)
  · have hb : b ≠ 0 := fun z => by subst z; revert c; decide
    walk_at "rd"
    have e : (a : Int) % (b : Int) = ((a % b : Nat) : Int) := by omega
    refine Hold.mk ⟨a % b, Nat.mod_lt _ (by omega), b, some (.int ((a % b : Nat) : Int)), by rw [← e]; rfl, ?_⟩
    rw [← hg, Nat.gcd_comm b (a % b)]
    exact (Nat.gcd_rec b a).symm.trans (Nat.gcd_comm b a)
  · have hb : b = 0 := by
      rcases Nat.eq_zero_or_pos b with z | z
      · exact z
      · exfalso
        apply c
        rw [eqD_int]
        have : ¬ ((b : Int) = 0) := by omega
        simp [this]
        omega
    subst hb
    walk_at "rd"
    rw [Nat.gcd_zero_right] at hg
    rw [hg]
    exact h
theorem bd_sign (T : Txt K mg t) : Binds K t.fd_sign ["number"] [] := T.F_sign.binds fun _ _ _ _ _ _ us hl => match us, hl with | [_], _ => rfl
def S_sign : SpP := fun ds Q => ∃ i : Int, ds = [.int i] ∧ Q (.int i.sign)
theorem ok_sign (T : Txt K mg t) : FnOk P w K mg base CX0 1 t.f_sign t.fd_sign ["number"] (spP K S_sign) := by
  refine fnP T.F_sign sc_sign (fun ds Q h => by (first | (obtain ⟨_, rfl, _⟩ := h; rfl) | (obtain ⟨_, _, rfl, _⟩ := h; rfl) | (obtain ⟨_, _, _, rfl, _⟩ := h; rfl) | (obtain ⟨_, _, _, _, rfl, _⟩ := h; rfl) | (obtain ⟨_, _, _, _, _, rfl, _⟩ := h; rfl) | (obtain ⟨_, _, _, _, _, _, rfl, _⟩ := h; rfl) | (obtain ⟨_, _, _, _, _, _, _, rfl, _⟩ := h; rfl))) (fun cdv A outer s H hr => ?_)
  have hu := hr.units
  refine ⟨_, (b_cons (s_if (k_cmp o_gt (q_var 0) q_int (nomark _)) (b_one (s_ret q_int)) b_nil)
      (b_cons (s_if (k_cmp (o_ltD hu) (q_var 0) q_int (nomark _)) (b_one (s_ret (q_neg q_int))) b_nil)
      (b_one (s_ret q_int)))), fun ds Q h => ?_⟩
  obtain ⟨i, rfl, h⟩ := h
  walk_at "rd"
  refine ite2 (fun c => ?_) (fun c => ?_)
  · have c : 0 < i := of_decide_eq_true c
    rw [Int.sign_eq_one_of_pos c] at h
    exact h
  · have c : ¬ 0 < i := fun z => c (decide_eq_true z)
    walk_at "rd"
    refine ite2 (fun e => ?_) (fun e => ?_)
    · have e : i < 0 := of_decide_eq_true e
      rw [Int.sign_eq_neg_one_of_neg e] at h
      walk_at "rd"
      exact h
    · have e : ¬ i < 0 := fun z => e (decide_eq_true z)
      have z : i = 0 := by omega
      subst z
      exact h
theorem bd_fraction (T : Txt K mg t) : Binds K t.fd_fraction ["top", "bottom"] [] := T.F_fraction.binds fun _ _ _ _ _ _ us hl => match us, hl with | [_, _], _ => rfl
def S_fraction_x (R : Addr) : SpX := fun ds Q C => ∃ a : Int, ds = [.int a, .int 0] ∧ C R
theorem ok_fraction_x (T : Txt K mg t) : FnOk P w K mg base (CXx P w) 2 t.f_fraction t.fd_fraction ["top", "bottom"] (spX K (S_fraction_x t.c_NoNumber)) := by
  refine fnX T.F_fraction sc_fraction (fun ds Q C h => by (first | (obtain ⟨_, rfl, _⟩ := h; rfl) | (obtain ⟨_, _, rfl, _⟩ := h; rfl) | (obtain ⟨_, _, _, rfl, _⟩ := h; rfl) | (obtain ⟨_, _, _, _, rfl, _⟩ := h; rfl) | (obtain ⟨_, _, _, _, _, rfl, _⟩ := h; rfl) | (obtain ⟨_, _, _, _, _, _, rfl, _⟩ := h; rfl) | (obtain ⟨_, _, _, _, _, _, _, rfl, _⟩ := h; rfl))) (fun cdv A outer s H hr => ?_)
  have hu := hr.units
  refine ⟨_, (bx_cons (sx_if (k_cmp (o_eq hu) (q_var 1) q_int (nomark _)) (bx_one (sx_raise T.X_NoNumber rfl (by rfl) T.mc_NoNumber (a_cons q_str a_nil))) (bx_up b_nil))
      (bx_up (b_cons (s_set (i := 2) sc_fraction.nd rfl (Or.inl rfl) (q_bin o_mul (q_callP (ok_common_divisor T) (hr.mono (by decide)) (by rfl) T.m_common_divisor T.F_common_divisor.kp (bd_common_divisor T) (a_cons (q_var 0) (a_cons (q_var 1) a_nil))) (q_callP (ok_sign T) (hr.mono (by decide)) (by rfl) T.m_sign T.F_sign.kp (bd_sign T) (a_cons (q_var 1) a_nil))))
      (b_one (s_ret (q_tup (a_cons (q_bin o_fdivN (q_var 0) (q_var 2)) (a_cons (q_bin o_fdivN (q_var 1) (q_var 2)) a_nil)))))))), fun ds Q C h => ?_⟩
  obtain ⟨a, rfl, h⟩ := h
  walk_at "rd"
  exact h
def S_fraction : SpP := fun ds Q => ∃ (a b : Int) (n : Nat), ds = [.int a, .int b] ∧ b ≠ 0 ∧ Sm n a ∧ Sm n b ∧ n ≤ 7000 ∧ Q (frac a b).d
theorem ok_fraction (T : Txt K mg t) : FnOk P w K mg base CX0 2 t.f_fraction t.fd_fraction ["top", "bottom"] (spP K S_fraction) := by
  refine fnP T.F_fraction sc_fraction (fun ds Q h => by (first | (obtain ⟨_, rfl, _⟩ := h; rfl) | (obtain ⟨_, _, rfl, _⟩ := h; rfl) | (obtain ⟨_, _, _, rfl, _⟩ := h; rfl) | (obtain ⟨_, _, _, _, rfl, _⟩ := h; rfl) | (obtain ⟨_, _, _, _, _, rfl, _⟩ := h; rfl) | (obtain ⟨_, _, _, _, _, _, rfl, _⟩ := h; rfl) | (obtain ⟨_, _, _, _, _, _, _, rfl, _⟩ := h; rfl))) (fun cdv A outer s H hr => ?_)
  have hu := hr.units
  refine ⟨_, (b_cons (s_if (k_cmp (o_eq hu) (q_var 1) q_int (nomark _)) (b_one s_never) b_nil)
      (b_cons (s_set (i := 2) sc_fraction.nd rfl (Or.inl rfl) (q_bin o_mul (q_callP (ok_common_divisor T) (hr.mono (by decide)) (by rfl) T.m_common_divisor T.F_common_divisor.kp (bd_common_divisor T) (a_cons (q_var 0) (a_cons (q_var 1) a_nil))) (q_callP (ok_sign T) (hr.mono (by decide)) (by rfl) T.m_sign T.F_sign.kp (bd_sign T) (a_cons (q_var 1) a_nil))))
      (b_one (s_ret (q_tup (a_cons (q_bin o_fdivN (q_var 0) (q_var 2)) (a_cons (q_bin o_fdivN (q_var 1) (q_var 2)) a_nil))))))), fun ds Q h => ?_⟩
  obtain ⟨a, b, n, rfl, hb, sa, sb, hn, h⟩ := h
  walk_at "rd"
  refine ite2 (fun c => ?_) (fun c => ?_)
  · exfalso
    rw [eqD_int] at c
    exact hb (eq_of_beq c)
  have hg : (Int.gcd a b : Nat) ≤ b.natAbs := Nat.le_of_dvd (by omega) (Int.gcd_dvd_natAbs_right a b)
  have sg : Sm n ((Int.gcd a b : Nat) : Int) := sb.of_abs (by omega)
  have hg0 : 0 < Int.gcd a b := Int.gcd_pos_of_ne_zero_right a hb
  have hs := sign_sq hb
  have hd : (Int.gcd a b : Int) * b.sign ≠ 0 := by
    intro z
    rcases Int.mul_eq_zero.mp z with z | z
    · omega
    · rw [z] at hs; exact absurd hs (by decide)
  have sd : DivNOk 0 ((Int.gcd a b : Int) * b.sign) := ⟨hd, n + 1, Sm.mul sg (Sm.sign _), by omega⟩
  walk_at "rd"
  refine ⟨sd, ?_⟩
  walk_at "rd"
  refine ⟨sd, ?_⟩
  walk_at "rd"
  exact h
theorem bd_has_only (T : Txt K mg t) : Binds K t.fd_has_only ["text", "signs"] [] := T.F_has_only.binds fun _ _ _ _ _ _ us hl => match us, hl with | [_, _], _ => rfl
def S_has_only : SpP := fun ds Q => ∃ x y : Str, ds = [.str x, .str y] ∧ x.length ≤ 1000 ∧ Q (.bl (x.cps.toList.all fun c => decide (c ∈ y.cps.toList)))
theorem ok_has_only (T : Txt K mg t) : FnOk P w K mg base CX0 1 t.f_has_only t.fd_has_only ["text", "signs"] (spP K S_has_only) := by
  refine fnP T.F_has_only sc_has_only (fun ds Q h => by (first | (obtain ⟨_, rfl, _⟩ := h; rfl) | (obtain ⟨_, _, rfl, _⟩ := h; rfl) | (obtain ⟨_, _, _, rfl, _⟩ := h; rfl) | (obtain ⟨_, _, _, _, rfl, _⟩ := h; rfl) | (obtain ⟨_, _, _, _, _, rfl, _⟩ := h; rfl) | (obtain ⟨_, _, _, _, _, _, rfl, _⟩ := h; rfl) | (obtain ⟨_, _, _, _, _, _, _, rfl, _⟩ := h; rfl))) (fun cdv A outer s H hr => ?_)
  have hu := hr.units
  refine ⟨_, (b_one (s_ret (q_blt (c_all rfl) (by rfl) T.no_all boot3_all (a_cons (q_lc (q_lcS (ys := ["signs"]) (fs := [1]) rfl (by show compChk (defScope s_has_only) ["text", "signs"] _ _ _ _ = true; decide +kernel) (q_var 0) (fun cl C s0 H0 ex => l_nil) (fun cl C s0 H0 ex => (q_cmp o_inS (q_var 0) (q_var 1) (by with_unfolding_all rfl))))) a_nil)))), fun ds Q h => ?_⟩
  obtain ⟨x, y, rfl, hl, h⟩ := h
  have hz : (1000 : Nat) < sizeLine := by decide
  walk_at "rd"
  refine ⟨by omega, Hold.mk (runLC_inv (fun i acc M4 => M4 = noM ∧ acc = ((x.cps.toList.take i).map fun c => decide (c ∈ y.cps.toList)).map L3.D.bl) _ ?_ ?_ ⟨rfl, rfl⟩)⟩
  · rintro i d acc M4 N hx ⟨rfl, rfl⟩ hN
    obtain ⟨c, hc, rfl⟩ := signs_get hx
    refine ⟨trivial, ?_⟩
    walk_at "rd"
    exact hN _ _ ⟨rfl, by rw [take_one hc, List.map_append, List.map_append]; rfl⟩
  rintro acc M4 ⟨rfl, rfl⟩
  refine ⟨trivial, fun p hp => ?_⟩
  refine ⟨p, _, rfl, updM_same, ?_⟩
  rw [signs_len, List.take_length, List.all_map]
  exact h
theorem bd_is_figures (T : Txt K mg t) : Binds K t.fd_is_figures ["text"] [] := T.F_is_figures.binds fun _ _ _ _ _ _ us hl => match us, hl with | [_], _ => rfl
def S_is_figures : SpP := fun ds Q => ∃ x : Str, ds = [.str x] ∧ x.length ≤ 1000 ∧ Q (.bl (figs x.cps.toList))
theorem ok_is_figures (T : Txt K mg t) : FnOk P w K mg base CX0 2 t.f_is_figures t.fd_is_figures ["text"] (spP K S_is_figures) := by
  refine fnP T.F_is_figures sc_is_figures (fun ds Q h => by (first | (obtain ⟨_, rfl, _⟩ := h; rfl) | (obtain ⟨_, _, rfl, _⟩ := h; rfl) | (obtain ⟨_, _, _, rfl, _⟩ := h; rfl) | (obtain ⟨_, _, _, _, rfl, _⟩ := h; rfl) | (obtain ⟨_, _, _, _, _, rfl, _⟩ := h; rfl) | (obtain ⟨_, _, _, _, _, _, rfl, _⟩ := h; rfl) | (obtain ⟨_, _, _, _, _, _, _, rfl, _⟩ := h; rfl))) (fun cdv A outer s H hr => ?_)
  have hu := hr.units
  refine ⟨_, (b_one (s_ret (q_and (q_chain o_le o_le q_int (q_blt c_lenS (by rfl) T.no_len boot3_len (a_cons (q_var 0) a_nil)) q_int) (q_one (q_callP (ok_has_only T) (hr.mono (by decide)) (by rfl) T.m_has_only T.F_has_only.kp (bd_has_only T) (a_cons (q_var 0) (a_cons (q_gS (by rfl) T.g_FIGURES) a_nil))))))), fun ds Q h => ?_⟩
  obtain ⟨x, rfl, hl, h⟩ := h
  have hz : (1000 : Nat) < sizeLine := by decide
  have hn := len_list x
  walk_at "rd"
  refine ⟨by omega, ?_⟩
  walk_at "rd"
  refine ite2 (fun c1 => ?_) (fun c1 => ?_)
  · have c1 : (1 : Int) ≤ x.length := of_decide_eq_true c1
    walk_at "rd"
    refine ite2 (fun c2 => ?_) (fun c2 => ?_)
    · have c2 : ((x.length : Nat) : Int) ≤ 40 := of_decide_eq_true c2
      walk_at "rd"
      refine ⟨hl, ?_⟩
      have e : figs x.cps.toList = x.cps.toList.all fun c => decide (c ∈ (Str.ofString "0123456789").cps.toList) := by
        unfold figs
        rw [decide_eq_true (by omega), decide_eq_true (by omega)]
        simp only [mem_figures, Bool.true_and]
      rw [e] at h
      exact h
    · have c2 : ¬ ((x.length : Nat) : Int) ≤ 40 := fun z => c2 (decide_eq_true z)
      walk_at "rd"
      have e : figs x.cps.toList = false := by
        unfold figs
        rw [decide_eq_false (show ¬ x.cps.toList.length ≤ 40 by omega), Bool.and_false, Bool.false_and]
      rw [e] at h
      exact h
  · have c1 : ¬ (1 : Int) ≤ x.length := fun z => c1 (decide_eq_true z)
    walk_at "rd"
    have e : figs x.cps.toList = false := by
      unfold figs
      rw [decide_eq_false (show ¬ 1 ≤ x.cps.toList.length by omega), Bool.false_and, Bool.false_and]
    rw [e] at h
    exact h
theorem bd_read_number (T : Txt K mg t) : Binds K t.fd_read_number ["text"] [] := T.F_read_number.binds fun _ _ _ _ _ _ us hl => match us, hl with | [_], _ => rfl
def S_read_number_x (R : Addr) : SpX := fun ds Q C => ∃ x : Str, ds = [.str x] ∧ x.length ≤ 1000 ∧ due x.cps.toList = none ∧ C R
theorem ok_read_number_x (T : Txt K mg t) : FnOk P w K mg base (CXx P w) 3 t.f_read_number t.fd_read_number ["text"] (spX K (S_read_number_x t.c_NoNumber)) := by
  refine fnX T.F_read_number sc_read_number (fun ds Q C h => by (first | (obtain ⟨_, rfl, _⟩ := h; rfl) | (obtain ⟨_, _, rfl, _⟩ := h; rfl) | (obtain ⟨_, _, _, rfl, _⟩ := h; rfl) | (obtain ⟨_, _, _, _, rfl, _⟩ := h; rfl) | (obtain ⟨_, _, _, _, _, rfl, _⟩ := h; rfl) | (obtain ⟨_, _, _, _, _, _, rfl, _⟩ := h; rfl) | (obtain ⟨_, _, _, _, _, _, _, rfl, _⟩ := h; rfl))) (fun cdv A outer s H hr => ?_)
  have hu := hr.units
  refine ⟨_, (bx_cons (sx_up (s_set (i := 1) sc_read_number.nd rfl (Or.inl rfl) (q_split (to := _) (te := _) (pe_bm PySem.F.plainAttrs_str PySem.F.slot_str_split PySem.F.type_str_split mt_split (PE3.dn (q_var 0)) (pa_cons (PE3.dn q_str) pa_nil)))))
      (bx_cons (sx_up (s_set (i := 2) sc_read_number.nd rfl (Or.inl rfl) (q_if (k_val (q_starts (to := _) (te := _) (pe_bm PySem.F.plainAttrs_str PySem.F.slot_str_startswith PySem.F.type_str_startswith mt_starts (PE3.dn (q_var 0)) (pa_cons (PE3.dn q_str) pa_nil)))) (q_sliceS (q_ix (q_var 1) q_int) (p_some q_int) p_no) (q_ix (q_var 1) q_int))))
      (bx_cons (sx_up (s_set (i := 3) sc_read_number.nd rfl (Or.inl rfl) (q_if (k_cmp (o_eq hu) (q_blt c_len (by rfl) T.no_len boot3_len (a_cons (q_var 1) a_nil)) q_int (nomark _)) q_str (q_ix (q_var 1) q_int))))
      (bx_cons (sx_if (PW3.pt (k_or (k_cmp o_gt (q_blt c_len (by rfl) T.no_len boot3_len (a_cons (q_var 1) a_nil)) q_int (nomark _)) (k_or (k_not (k_val (q_callP (ok_is_figures T) (hr.mono (by decide)) (by rfl) T.m_is_figures T.F_is_figures.kp (bd_is_figures T) (a_cons (q_var 2) a_nil)))) (k_or1 (k_not (k_val (q_callP (ok_is_figures T) (hr.mono (by decide)) (by rfl) T.m_is_figures T.F_is_figures.kp (bd_is_figures T) (a_cons (q_var 3) a_nil)))))))) (bx_one (sx_raise T.X_NoNumber rfl (by rfl) T.mc_NoNumber (a_cons q_str a_nil))) (bx_up b_nil))
      (bx_one (sx_ret (ex_call (ok_fraction_x T) (hr.mono (by decide)) (by rfl) T.m_fraction T.F_fraction.kp (bd_fraction T) (a_cons (q_typ c_intS (by rfl) T.no_int boot3_int (a_cons (q_ix (q_var 1) q_int) a_nil)) (a_cons (q_typ c_intS (by rfl) T.no_int boot3_int (a_cons (q_var 3) a_nil)) a_nil))))))))), fun ds Q C h => ?_⟩
  obtain ⟨x, rfl, hl, hd, h⟩ := h
  have hz : (1000 : Nat) < sizeLine := by decide
  have s47 : Str.ofString "/" = ⟨#[47]⟩ := by decide
  have s45 : Str.ofString "-" = ⟨#[45]⟩ := by decide
  have hn := len_list x
  obtain ⟨P0, tp, ps, h1, h2, h3⟩ := sp_top x.cps.toList
  have lP : P0.length ≤ 1000 := by
    have := sp_short (show P0 ∈ sp x.cps.toList by rw [h1]; exact List.mem_cons_self)
    omega
  have lps : ∀ q ∈ ps, q.length ≤ 1000 := fun q hq => by
    have := sp_short (show q ∈ sp x.cps.toList by rw [h1]; exact List.mem_cons_of_mem _ hq)
    omega
  have lt : tp.length ≤ 1000 := by
    rcases h3 with ⟨_, e⟩ | ⟨_, e⟩
    · rw [e, List.length_cons] at lP; omega
    · rw [e] at lP; exact lP
  walk_at "rd"
  refine ⟨⟨_, rfl⟩, ?_⟩
  refine ⟨x, 47, rfl, congrArg L3.D.str s47, hl, fun p hp => ?_⟩
  rw [split_sp, h1]
  have m0 : updM noM p (.lst (((P0 :: ps).map mkS).map L3.D.str)) p = some (.lst (((P0 :: ps).map mkS).map L3.D.str)) := updM_same
  generalize updM noM p (.lst (((P0 :: ps).map mkS).map L3.D.str)) = M0 at *
  walk_at "rd"
  refine ⟨⟨_, rfl⟩, ?_⟩
  walk_at "rd"
  rw [s45, starts_begs]
  rcases h3 with ⟨hb, e0⟩ | ⟨hb, e0⟩
  · have hP : ∀ f : figs tp = true, PySem.intText? (mkS P0) = some (-valT tp) := fun f => by rw [e0]; exact int_minus f
    rw [hb]
    refine iteT ?_
    walk_at "rd"
    refine ⟨_, _, _, .inr (.inr ⟨p, rfl, m0⟩), rfl, atI_nat (j := 0) rfl, ?_⟩
    walk_at "rd"
    refine ⟨by rw [len_mkS]; omega, ?_⟩
    rw [show Txt.slice (mkS P0) (some 1) none = mkS tp from (slice_drop (mkS P0) 1).trans (by rw [toList_mkS, e0]; rfl)]
    walk_at "rd"
    match ps, h1, h2, lps, m0 with
    | [], h1, h2, lps, m0 =>
      have hf : figs tp = false := by
        cases q : figs tp with
        | false => rfl
        | true => rw [due_one h2 q] at hd; cases hd
      refine ⟨_, _, rfl, .inr (.inr ⟨p, rfl, m0⟩), ?_⟩
      walk_at "rd"
      refine ⟨_, _, rfl, .inr (.inr ⟨p, rfl, m0⟩), ?_⟩
      walk_at "rd"
      refine ⟨by rw [len_mkS]; omega, ?_⟩
      rw [toList_mkS, hf]
      walk_at "rd"
      exact h
    | [q], h1, h2, lps, m0 =>
      have lq := lps q (by simp)
      refine ⟨_, _, rfl, .inr (.inr ⟨p, rfl, m0⟩), ?_⟩
      walk_at "rd"
      refine ⟨_, _, _, .inr (.inr ⟨p, rfl, m0⟩), rfl, atI_nat (j := 1) rfl, ?_⟩
      walk_at "rd"
      refine ⟨_, _, rfl, .inr (.inr ⟨p, rfl, m0⟩), ?_⟩
      walk_at "rd"
      refine ⟨by rw [len_mkS]; omega, ?_⟩
      cases hf : figs tp with
      | false =>
        walk_at "rd"
        exact h
      | true =>
        walk_at "rd"
        refine ⟨by rw [len_mkS]; omega, ?_⟩
        cases hg : figs q with
        | false =>
          walk_at "rd"
          exact h
        | true =>
          have tq := figs_iff.mp hg
          have tt := figs_iff.mp hf
          have z : valT q = 0 := by
            by_cases k : valT q = 0
            · exact k
            · rw [due_two h2 hf hg k] at hd; cases hd
          walk_at "rd"
          refine ⟨_, _, _, .inr (.inr ⟨p, rfl, m0⟩), rfl, atI_nat (j := 0) rfl, ?_⟩
          refine ⟨_, _, rfl, hP hf, by rw [len_mkS, e0]; (try rw [List.length_cons]); omega, ?_⟩
          refine ⟨_, rfl, ?_⟩
          refine ⟨_, _, rfl, int_figs hg, by rw [len_mkS]; omega, ?_⟩
          exact ⟨_, by rw [z], h⟩
    | q :: s :: r, h1, h2, lps, m0 =>
      refine ⟨_, _, rfl, .inr (.inr ⟨p, rfl, m0⟩), ?_⟩
      refine ⟨rfl, _, rfl, ?_⟩
      refine ite2 (fun k => absurd k (by rw [eqD_int]; simp; omega)) (fun _ => ?_)
      walk_at "rd"
      refine ⟨_, _, _, .inr (.inr ⟨p, rfl, m0⟩), rfl, atI_nat (j := 1) rfl, ?_⟩
      walk_at "rd"
      refine ⟨_, _, rfl, .inr (.inr ⟨p, rfl, m0⟩), ?_⟩
      refine ⟨_, _, rfl, rfl, _, rfl, ?_⟩
      refine ite2 (fun _ => ?_) (fun k => absurd (by simp; omega) k)
      walk_at "rd"
      exact h
  · have hP : ∀ f : figs tp = true, PySem.intText? (mkS P0) = some (valT tp) := fun f => by rw [e0]; exact int_figs f
    rw [hb]
    refine iteF ?_
    walk_at "rd"
    refine ⟨_, _, _, .inr (.inr ⟨p, rfl, m0⟩), rfl, atI_nat (j := 0) rfl, ?_⟩
    rw [show mkS P0 = mkS tp from by rw [e0]]
    walk_at "rd"
    match ps, h1, h2, lps, m0 with
    | [], h1, h2, lps, m0 =>
      have hf : figs tp = false := by
        cases q : figs tp with
        | false => rfl
        | true => rw [due_one h2 q] at hd; cases hd
      refine ⟨_, _, rfl, .inr (.inr ⟨p, rfl, m0⟩), ?_⟩
      walk_at "rd"
      refine ⟨_, _, rfl, .inr (.inr ⟨p, rfl, m0⟩), ?_⟩
      walk_at "rd"
      refine ⟨by rw [len_mkS]; omega, ?_⟩
      rw [toList_mkS, hf]
      walk_at "rd"
      exact h
    | [q], h1, h2, lps, m0 =>
      have lq := lps q (by simp)
      refine ⟨_, _, rfl, .inr (.inr ⟨p, rfl, m0⟩), ?_⟩
      walk_at "rd"
      refine ⟨_, _, _, .inr (.inr ⟨p, rfl, m0⟩), rfl, atI_nat (j := 1) rfl, ?_⟩
      walk_at "rd"
      refine ⟨_, _, rfl, .inr (.inr ⟨p, rfl, m0⟩), ?_⟩
      walk_at "rd"
      refine ⟨by rw [len_mkS]; omega, ?_⟩
      cases hf : figs tp with
      | false =>
        walk_at "rd"
        exact h
      | true =>
        walk_at "rd"
        refine ⟨by rw [len_mkS]; omega, ?_⟩
        cases hg : figs q with
        | false =>
          walk_at "rd"
          exact h
        | true =>
          have tq := figs_iff.mp hg
          have tt := figs_iff.mp hf
          have z : valT q = 0 := by
            by_cases k : valT q = 0
            · exact k
            · rw [due_two h2 hf hg k] at hd; cases hd
          walk_at "rd"
          refine ⟨_, _, _, .inr (.inr ⟨p, rfl, m0⟩), rfl, atI_nat (j := 0) rfl, ?_⟩
          refine ⟨_, _, rfl, hP hf, by rw [len_mkS, e0]; (try rw [List.length_cons]); omega, ?_⟩
          refine ⟨_, rfl, ?_⟩
          refine ⟨_, _, rfl, int_figs hg, by rw [len_mkS]; omega, ?_⟩
          exact ⟨_, by rw [z], h⟩
    | q :: s :: r, h1, h2, lps, m0 =>
      refine ⟨_, _, rfl, .inr (.inr ⟨p, rfl, m0⟩), ?_⟩
      refine ⟨rfl, _, rfl, ?_⟩
      refine ite2 (fun k => absurd k (by rw [eqD_int]; simp; omega)) (fun _ => ?_)
      walk_at "rd"
      refine ⟨_, _, _, .inr (.inr ⟨p, rfl, m0⟩), rfl, atI_nat (j := 1) rfl, ?_⟩
      walk_at "rd"
      refine ⟨_, _, rfl, .inr (.inr ⟨p, rfl, m0⟩), ?_⟩
      refine ⟨_, _, rfl, rfl, _, rfl, ?_⟩
      refine ite2 (fun _ => ?_) (fun k => absurd (by simp; omega) k)
      walk_at "rd"
      exact h
def S_read_number : SpP := fun ds Q => ∃ (x : Str) (a b : Int), ds = [.str x] ∧ x.length ≤ 1000 ∧ due x.cps.toList = some (a, b) ∧ Q (frac a b).d
theorem ok_read_number (T : Txt K mg t) : FnOk P w K mg base CX0 3 t.f_read_number t.fd_read_number ["text"] (spP K S_read_number) := by
  refine fnP T.F_read_number sc_read_number (fun ds Q h => by (first | (obtain ⟨_, rfl, _⟩ := h; rfl) | (obtain ⟨_, _, rfl, _⟩ := h; rfl) | (obtain ⟨_, _, _, rfl, _⟩ := h; rfl) | (obtain ⟨_, _, _, _, rfl, _⟩ := h; rfl) | (obtain ⟨_, _, _, _, _, rfl, _⟩ := h; rfl) | (obtain ⟨_, _, _, _, _, _, rfl, _⟩ := h; rfl) | (obtain ⟨_, _, _, _, _, _, _, rfl, _⟩ := h; rfl))) (fun cdv A outer s H hr => ?_)
  have hu := hr.units
  refine ⟨_, (b_cons (s_set (i := 1) sc_read_number.nd rfl (Or.inl rfl) (q_split (to := _) (te := _) (pe_bm PySem.F.plainAttrs_str PySem.F.slot_str_split PySem.F.type_str_split mt_split (PE3.dn (q_var 0)) (pa_cons (PE3.dn q_str) pa_nil))))
      (b_cons (s_set (i := 2) sc_read_number.nd rfl (Or.inl rfl) (q_if (k_val (q_starts (to := _) (te := _) (pe_bm PySem.F.plainAttrs_str PySem.F.slot_str_startswith PySem.F.type_str_startswith mt_starts (PE3.dn (q_var 0)) (pa_cons (PE3.dn q_str) pa_nil)))) (q_sliceS (q_ix (q_var 1) q_int) (p_some q_int) p_no) (q_ix (q_var 1) q_int)))
      (b_cons (s_set (i := 3) sc_read_number.nd rfl (Or.inl rfl) (q_if (k_cmp (o_eq hu) (q_blt c_len (by rfl) T.no_len boot3_len (a_cons (q_var 1) a_nil)) q_int (nomark _)) q_str (q_ix (q_var 1) q_int)))
      (b_cons (s_if (PW3.pt (k_or (k_cmp o_gt (q_blt c_len (by rfl) T.no_len boot3_len (a_cons (q_var 1) a_nil)) q_int (nomark _)) (k_or (k_not (k_val (q_callP (ok_is_figures T) (hr.mono (by decide)) (by rfl) T.m_is_figures T.F_is_figures.kp (bd_is_figures T) (a_cons (q_var 2) a_nil)))) (k_or1 (k_not (k_val (q_callP (ok_is_figures T) (hr.mono (by decide)) (by rfl) T.m_is_figures T.F_is_figures.kp (bd_is_figures T) (a_cons (q_var 3) a_nil)))))))) (b_one s_never) b_nil)
      (b_one (s_ret (q_callP (ok_fraction T) (hr.mono (by decide)) (by rfl) T.m_fraction T.F_fraction.kp (bd_fraction T) (a_cons (q_typ c_intS (by rfl) T.no_int boot3_int (a_cons (q_ix (q_var 1) q_int) a_nil)) (a_cons (q_typ c_intS (by rfl) T.no_int boot3_int (a_cons (q_var 3) a_nil)) a_nil))))))))), fun ds Q h => ?_⟩
  obtain ⟨x, a, b, rfl, hl, hd, h⟩ := h
  have hz : (1000 : Nat) < sizeLine := by decide
  have s47 : Str.ofString "/" = ⟨#[47]⟩ := by decide
  have s45 : Str.ofString "-" = ⟨#[45]⟩ := by decide
  have hn := len_list x
  obtain ⟨P0, tp, ps, h1, h2, h3⟩ := sp_top x.cps.toList
  have lP : P0.length ≤ 1000 := by
    have := sp_short (show P0 ∈ sp x.cps.toList by rw [h1]; exact List.mem_cons_self)
    omega
  have hf : figs tp = true := by
    cases q : figs tp with
    | true => rfl
    | false => rw [due_bad (by rw [h2]; exact List.mem_cons_self) q] at hd; cases hd
  have hps : ps = [] ∨ ∃ q, ps = [q] ∧ figs q = true ∧ valT q ≠ 0 := by
    match ps, h2 with
    | [], _ => exact .inl rfl
    | [q], h2 =>
      refine .inr ⟨q, rfl, ?_, fun z => ?_⟩
      · cases k : figs q with
        | true => rfl
        | false => rw [due_bad (by rw [h2]; simp) k] at hd; cases hd
      · rw [due_zero h2 z] at hd; cases hd
    | q :: s :: r, h2 => rw [due_long (by rw [h2]; simp)] at hd; cases hd
  walk_at "rd"
  refine ⟨⟨_, rfl⟩, ?_⟩
  refine ⟨x, 47, rfl, congrArg L3.D.str s47, hl, fun p hp => ?_⟩
  rw [split_sp, h1]
  have m0 : updM noM p (.lst (((P0 :: ps).map mkS).map L3.D.str)) p = some (.lst (((P0 :: ps).map mkS).map L3.D.str)) := updM_same
  generalize updM noM p (.lst (((P0 :: ps).map mkS).map L3.D.str)) = M0 at *
  walk_at "rd"
  refine ⟨⟨_, rfl⟩, ?_⟩
  walk_at "rd"
  rw [s45, starts_begs]
  have t1 := figs_iff.mp hf
  have hP : PySem.intText? (mkS P0) = some (if begs 45 x.cps.toList = true then -valT tp else valT tp) ∧ P0.length ≤ 41 := by
    rcases h3 with ⟨hb, rfl⟩ | ⟨hb, rfl⟩
    · rw [hb, if_pos rfl]
      exact ⟨int_minus hf, by rw [List.length_cons]; omega⟩
    · rw [hb, if_neg Bool.false_ne_true]
      exact ⟨int_figs hf, by omega⟩
  rcases h3 with ⟨hb, e0⟩ | ⟨hb, e0⟩
  · rw [hb]
    refine iteT ?_
    walk_at "rd"
    refine ⟨_, _, _, .inr (.inr ⟨p, rfl, m0⟩), rfl, atI_nat (j := 0) rfl, ?_⟩
    walk_at "rd"
    refine ⟨by rw [len_mkS]; omega, ?_⟩
    rw [show Txt.slice (mkS P0) (some 1) none = mkS tp from (slice_drop (mkS P0) 1).trans (by rw [toList_mkS, e0]; rfl)]
    walk_at "rd"
    have rg := due_range hd
    have sa : Sm 200 a := by
      show a.natAbs < 2 ^ 200
      omega
    have sb : Sm 200 b := by
      show b.natAbs < 2 ^ 200
      omega
    rcases hps with rfl | ⟨q, rfl, hg, hq⟩
    · rw [due_one h2 hf] at hd
      injection hd with hd
      injection hd with ea eb
      rw [ea] at hP
      refine ⟨_, _, rfl, .inr (.inr ⟨p, rfl, m0⟩), ?_⟩
      walk_at "rd"
      refine ⟨_, _, rfl, .inr (.inr ⟨p, rfl, m0⟩), ?_⟩
      walk_at "rd"
      refine ⟨by rw [len_mkS]; omega, ?_⟩
      rw [toList_mkS, hf]
      walk_at "rd"
      refine ⟨_, _, _, .inr (.inr ⟨p, rfl, m0⟩), rfl, atI_nat (j := 0) rfl, ?_⟩
      refine ⟨_, _, rfl, hP.1, by rw [len_mkS]; omega, ?_⟩
      refine ⟨_, rfl, ?_⟩
      refine ⟨_, 1, rfl, by rw [show Str.ofString "1" = mkS [49] from by decide]; exact int_figs (l := [49]) (by decide), by decide, ?_⟩
      subst eb
      exact ⟨_, _, 200, rfl, by decide, sa, sb, by decide, h⟩
    · have tq := figs_iff.mp hg
      rw [due_two h2 hf hg hq] at hd
      injection hd with hd
      injection hd with ea eb
      rw [ea] at hP
      refine ⟨_, _, rfl, .inr (.inr ⟨p, rfl, m0⟩), ?_⟩
      walk_at "rd"
      refine ⟨_, _, _, .inr (.inr ⟨p, rfl, m0⟩), rfl, atI_nat (j := 1) rfl, ?_⟩
      walk_at "rd"
      refine ⟨_, _, rfl, .inr (.inr ⟨p, rfl, m0⟩), ?_⟩
      walk_at "rd"
      refine ⟨by rw [len_mkS]; omega, ?_⟩
      rw [toList_mkS, hf]
      walk_at "rd"
      refine ⟨by rw [len_mkS]; omega, ?_⟩
      rw [toList_mkS, hg]
      walk_at "rd"
      refine ⟨_, _, _, .inr (.inr ⟨p, rfl, m0⟩), rfl, atI_nat (j := 0) rfl, ?_⟩
      refine ⟨_, _, rfl, hP.1, by rw [len_mkS]; omega, ?_⟩
      refine ⟨_, rfl, ?_⟩
      refine ⟨_, _, rfl, int_figs hg, by rw [len_mkS]; omega, ?_⟩
      subst eb
      exact ⟨_, _, 200, rfl, hq, sa, sb, by decide, h⟩
  · rw [hb]
    refine iteF ?_
    walk_at "rd"
    refine ⟨_, _, _, .inr (.inr ⟨p, rfl, m0⟩), rfl, atI_nat (j := 0) rfl, ?_⟩
    rw [show mkS P0 = mkS tp from by rw [e0]]
    walk_at "rd"
    have rg := due_range hd
    have sa : Sm 200 a := by
      show a.natAbs < 2 ^ 200
      omega
    have sb : Sm 200 b := by
      show b.natAbs < 2 ^ 200
      omega
    rcases hps with rfl | ⟨q, rfl, hg, hq⟩
    · rw [due_one h2 hf] at hd
      injection hd with hd
      injection hd with ea eb
      rw [ea] at hP
      refine ⟨_, _, rfl, .inr (.inr ⟨p, rfl, m0⟩), ?_⟩
      walk_at "rd"
      refine ⟨_, _, rfl, .inr (.inr ⟨p, rfl, m0⟩), ?_⟩
      walk_at "rd"
      refine ⟨by rw [len_mkS]; omega, ?_⟩
      rw [toList_mkS, hf]
      walk_at "rd"
      refine ⟨_, _, _, .inr (.inr ⟨p, rfl, m0⟩), rfl, atI_nat (j := 0) rfl, ?_⟩
      refine ⟨_, _, rfl, hP.1, by rw [len_mkS]; omega, ?_⟩
      refine ⟨_, rfl, ?_⟩
      refine ⟨_, 1, rfl, by rw [show Str.ofString "1" = mkS [49] from by decide]; exact int_figs (l := [49]) (by decide), by decide, ?_⟩
      subst eb
      exact ⟨_, _, 200, rfl, by decide, sa, sb, by decide, h⟩
    · have tq := figs_iff.mp hg
      rw [due_two h2 hf hg hq] at hd
      injection hd with hd
      injection hd with ea eb
      rw [ea] at hP
      refine ⟨_, _, rfl, .inr (.inr ⟨p, rfl, m0⟩), ?_⟩
      walk_at "rd"
      refine ⟨_, _, _, .inr (.inr ⟨p, rfl, m0⟩), rfl, atI_nat (j := 1) rfl, ?_⟩
      walk_at "rd"
      refine ⟨_, _, rfl, .inr (.inr ⟨p, rfl, m0⟩), ?_⟩
      walk_at "rd"
      refine ⟨by rw [len_mkS]; omega, ?_⟩
      rw [toList_mkS, hf]
      walk_at "rd"
      refine ⟨by rw [len_mkS]; omega, ?_⟩
      rw [toList_mkS, hg]
      walk_at "rd"
      refine ⟨_, _, _, .inr (.inr ⟨p, rfl, m0⟩), rfl, atI_nat (j := 0) rfl, ?_⟩
      refine ⟨_, _, rfl, hP.1, by rw [len_mkS]; omega, ?_⟩
      refine ⟨_, rfl, ?_⟩
      refine ⟨_, _, rfl, int_figs hg, by rw [len_mkS]; omega, ?_⟩
      subst eb
      exact ⟨_, _, 200, rfl, hq, sa, sb, by decide, h⟩
theorem bd__law_refused (T : Txt K mg t) : Binds K t.fd__law_refused ["_law_text_here"] [] := T.F__law_refused.binds fun _ _ _ _ _ _ us hl => match us, hl with | [_], _ => rfl
def S__law_refused : SpP := fun ds Q => ∃ x : Str, ds = [.str x] ∧ x.length ≤ 1000 ∧ due x.cps.toList = none ∧ Q (.bl true)
theorem ok__law_refused (T : Txt K mg t) : FnOk P w K mg base CX0 4 t.f__law_refused t.fd__law_refused ["_law_text_here"] (spP K S__law_refused) := by
  refine fnP T.F__law_refused sc__law_refused (fun ds Q h => by (first | (obtain ⟨_, rfl, _⟩ := h; rfl) | (obtain ⟨_, _, rfl, _⟩ := h; rfl) | (obtain ⟨_, _, _, rfl, _⟩ := h; rfl) | (obtain ⟨_, _, _, _, rfl, _⟩ := h; rfl) | (obtain ⟨_, _, _, _, _, rfl, _⟩ := h; rfl) | (obtain ⟨_, _, _, _, _, _, rfl, _⟩ := h; rfl) | (obtain ⟨_, _, _, _, _, _, _, rfl, _⟩ := h; rfl))) (fun cdv A outer s H hr => ?_)
  have hu := hr.units
  refine ⟨_, (b_cons (s_set (i := 1) sc__law_refused.nd rfl (Or.inl rfl) q_bl)
      (b_cons (s_try (i := 2) (ok_read_number_x T) (hr.mono (by decide)) (by rfl) T.m_read_number T.F_read_number.kp (bd_read_number T) (a_cons (q_var 0) a_nil) T.X_NearError (by rfl) T.mc_NearError sc__law_refused.nd rfl rfl (fun a C oe ho => (b_cons (s_set (i := 3) sc__law_refused.nd rfl (Or.inl rfl) (q_lst (a_cons (q_blt (c_isX ho) (by rfl) T.no_isinstance boot3_isinstance (a_cons (q_var 2) (a_cons (q_cls (by rfl) T.mc_Flat) a_nil))) (a_cons (q_blt (c_isX ho) (by rfl) T.no_isinstance boot3_isinstance (a_cons (q_var 2) (a_cons (q_cls (by rfl) T.mc_Twice) a_nil))) (a_cons (q_blt (c_isX ho) (by rfl) T.no_isinstance boot3_isinstance (a_cons (q_var 2) (a_cons (q_cls (by rfl) T.mc_NoPlace) a_nil))) (a_cons (q_blt (c_isX ho) (by rfl) T.no_isinstance boot3_isinstance (a_cons (q_var 2) (a_cons (q_cls (by rfl) T.mc_Stiff) a_nil))) a_nil))))))
      (b_cons (s_set (i := 1) sc__law_refused.nd rfl (Or.inl rfl) (q_and (q_blt (c_isX ho) (by rfl) T.no_isinstance boot3_isinstance (a_cons (q_var 2) (a_cons (q_cls (by rfl) T.mc_NoNumber) a_nil))) (q_one (q_blt (c_isX ho) (by rfl) T.no_isinstance boot3_isinstance (a_cons (q_var 2) (a_cons (q_type (by rfl) T.no_ValueError boot3_ValueError) a_nil))))))
      (b_one (s_if (PW3.pt (k_or (k_cmp (o_in hu) q_bl (q_var 3) (by with_unfolding_all rfl)) (k_or1 (k_val (q_blt (c_isX ho) (by rfl) T.no_isinstance boot3_isinstance (a_cons (q_var 2) (a_cons (q_cls (by rfl) T.mc_Crossed) a_nil))))))) (b_one (s_set (i := 1) sc__law_refused.nd rfl (Or.inl rfl) q_bl)) b_nil))))))
      (b_one (s_ret (q_var 1))))), fun ds Q h => ?_⟩
  obtain ⟨x, rfl, hl, hd, h⟩ := h
  walk_at "rd"
  refine ⟨hl, hd, T.sb, fun a => ?_⟩
  walk_at "rd"
  refine ⟨_, T.X_NoNumber.toXCls, .inl ⟨_, rfl, T.kx_Flat⟩, ?_⟩
  walk_at "rd"
  refine ⟨_, T.X_NoNumber.toXCls, .inl ⟨_, rfl, T.kx_Twice⟩, ?_⟩
  walk_at "rd"
  refine ⟨_, T.X_NoNumber.toXCls, .inl ⟨_, rfl, T.kx_NoPlace⟩, ?_⟩
  walk_at "rd"
  refine ⟨_, T.X_NoNumber.toXCls, .inl ⟨_, rfl, T.kx_Stiff⟩, ?_⟩
  walk_at "rd"
  intro p hp
  walk_at "rd"
  refine ⟨_, T.X_NoNumber.toXCls, .inl ⟨_, rfl, T.kx_NoNumber⟩, ?_⟩
  walk_at "rd"
  refine ⟨_, T.X_NoNumber.toXCls, .inr ⟨_, rfl, T.kxV⟩, ?_⟩
  walk_at "rd"
  refine ⟨_, .inr ⟨p, rfl, updM_same⟩, rfl, rfl, ?_⟩
  have e : inD (.bl true) [L3.D.bl false, .bl false, .bl false, .bl false] = false := by simp [inD, eqD]
  refine ⟨_, rfl, ?_⟩
  rw [if_neg Bool.false_ne_true, e]
  walk_at "rd"
  refine ⟨_, T.X_NoNumber.toXCls, .inl ⟨_, rfl, T.kx_Crossed⟩, ?_⟩
  walk_at "rd"
  exact h
theorem bd__law_same (T : Txt K mg t) : Binds K t.fd__law_same ["_law_found", "_law_due_here"] [] := T.F__law_same.binds fun _ _ _ _ _ _ us hl => match us, hl with | [_, _], _ => rfl
theorem kit_ib {K : PySem.W.Frag} : PySem.W.kitOne K (.type "int") (.type "bool") = some false := by kernel_rfl
def S__law_same : SpP := fun ds Q => ∃ f : Pl, ds = [f.d, f.d] ∧ Q (.bl true)
theorem ok__law_same (T : Txt K mg t) : FnOk P w K mg base CX0 1 t.f__law_same t.fd__law_same ["_law_found", "_law_due_here"] (spP K S__law_same) := by
  refine fnP T.F__law_same sc__law_same (fun ds Q h => by (first | (obtain ⟨_, rfl, _⟩ := h; rfl) | (obtain ⟨_, _, rfl, _⟩ := h; rfl) | (obtain ⟨_, _, _, rfl, _⟩ := h; rfl) | (obtain ⟨_, _, _, _, rfl, _⟩ := h; rfl) | (obtain ⟨_, _, _, _, _, rfl, _⟩ := h; rfl) | (obtain ⟨_, _, _, _, _, _, rfl, _⟩ := h; rfl) | (obtain ⟨_, _, _, _, _, _, _, rfl, _⟩ := h; rfl))) (fun cdv A outer s H hr => ?_)
  have hu := hr.units
  refine ⟨_, (b_cons (s_if (PW3.pt (k_or (k_not (k_val (q_blt c_isT (by rfl) T.no_isinstance boot3_isinstance (a_cons (q_var 0) (a_cons (q_type (by rfl) T.no_tuple boot3_tuple) a_nil))))) (k_or (k_cmp (o_ne hu) (q_blt c_len (by rfl) T.no_len boot3_len (a_cons (q_var 0) a_nil)) q_int (nomark _)) (k_or1 (k_cmp (o_ne hu) (q_var 0) (q_var 1) (nomark _)))))) (b_one (s_ret q_bl)) b_nil)
      (b_one (s_ret (q_and (q_not (q_blt c_isT (by rfl) T.no_isinstance boot3_isinstance (a_cons (q_ix (q_var 0) q_int) (a_cons (q_type (by rfl) T.no_bool boot3_bool) a_nil)))) (q_one (q_not (q_blt c_isT (by rfl) T.no_isinstance boot3_isinstance (a_cons (q_ix (q_var 0) q_int) (a_cons (q_type (by rfl) T.no_bool boot3_bool) a_nil))))))))), fun ds Q h => ?_⟩
  obtain ⟨f, rfl, h⟩ := h
  have e : eqD f.d f.d = true := eqD_refl 2 _ rfl
  walk_at "rd"
  rw [e]
  walk_at "rd"
  refine ⟨_, _, _, false, rfl, L3.Ty3.int _, kit_ib, ?_⟩
  walk_at "rd"
  refine ⟨_, _, _, false, rfl, L3.Ty3.int _, kit_ib, ?_⟩
  walk_at "rd"
  exact h
theorem bd__law_shown (T : Txt K mg t) : Binds K t.fd__law_shown ["_law_one"] [] := T.F__law_shown.binds fun _ _ _ _ _ _ us hl => match us, hl with | [_], _ => rfl
def S__law_shown : SpP := fun ds Q => ∃ f : Pl, ds = [f.d] ∧ Fits f ∧ Q (.str (shown f))
theorem ok__law_shown (T : Txt K mg t) : FnOk P w K mg base CX0 1 t.f__law_shown t.fd__law_shown ["_law_one"] (spP K S__law_shown) := by
  refine fnP T.F__law_shown sc__law_shown (fun ds Q h => by (first | (obtain ⟨_, rfl, _⟩ := h; rfl) | (obtain ⟨_, _, rfl, _⟩ := h; rfl) | (obtain ⟨_, _, _, rfl, _⟩ := h; rfl) | (obtain ⟨_, _, _, _, rfl, _⟩ := h; rfl) | (obtain ⟨_, _, _, _, _, rfl, _⟩ := h; rfl) | (obtain ⟨_, _, _, _, _, _, rfl, _⟩ := h; rfl) | (obtain ⟨_, _, _, _, _, _, _, rfl, _⟩ := h; rfl))) (fun cdv A outer s H hr => ?_)
  have hu := hr.units
  refine ⟨_, (b_cons (s_if (k_cmp (o_eq hu) (q_ix (q_var 0) q_int) q_int (nomark _)) (b_one (s_ret (q_typ c_strI (by rfl) T.no_str boot3_str (a_cons (q_ix (q_var 0) q_int) a_nil)))) b_nil)
      (b_one (s_ret (q_bin o_catS (q_bin o_catS (q_typ c_strI (by rfl) T.no_str boot3_str (a_cons (q_ix (q_var 0) q_int) a_nil)) q_str) (q_typ c_strI (by rfl) T.no_str boot3_str (a_cons (q_ix (q_var 0) q_int) a_nil)))))), fun ds Q h => ?_⟩
  obtain ⟨f, rfl, hf, h⟩ := h
  have hz : (1000 : Nat) < sizeLine := by decide
  have l1 := sh_len hf.1 hf.2.1
  have l2 := sh_len hf.2.2.1 hf.2.2.2
  have l3 : (Str.ofString "/").length = 1 := by decide
  walk_at "rd"
  refine ite2 (c := eqD (.int f.y) (.int 1) = true) (fun c => ?_) (fun c => ?_)
  · rw [eqD_int] at c
    have c : f.y = 1 := eq_of_beq c
    walk_at "rd"
    refine ⟨sh_log hf.1 hf.2.1, ?_⟩
    have e : shown f = Str.ofString (toString f.x) := if_pos c
    rw [e] at h
    exact h
  · rw [eqD_int] at c
    have c : ¬ f.y = 1 := fun z => c (by rw [z]; rfl)
    walk_at "rd"
    refine ⟨sh_log hf.1 hf.2.1, ?_⟩
    walk_at "rd"
    refine ⟨by omega, ?_⟩
    walk_at "rd"
    refine ⟨sh_log hf.2.2.1 hf.2.2.2, ?_⟩
    walk_at "rd"
    refine ⟨by rw [len_cat]; omega, ?_⟩
    have e : shown f = Str.ofString (toString f.x) ++ Str.ofString "/" ++ Str.ofString (toString f.y) := if_neg c
    rw [e] at h
    exact h
theorem bd_law (T : Txt K mg t) : Binds K t.fd_law ["_law_script"] [] := T.F_law.binds fun _ _ _ _ _ _ us hl => match us, hl with | [_], _ => rfl
abbrev S_law := S_lawOf
theorem frac_low {a b : Int} (hb : 0 < b) : frac a b = low a b := by
  unfold frac low
  rw [Int.sign_eq_one_of_pos hb, Int.mul_one]
  have hg : (0 : Int) ≤ (Int.gcd a b : Int) := by omega
  rw [Int.fdiv_eq_ediv_of_nonneg _ hg, Int.fdiv_eq_ediv_of_nonneg _ hg]
theorem low_low {a b : Int} (hb : 0 < b) (hg : Int.gcd a b = 1) : low a b = ⟨a, b⟩ := by
  unfold low
  rw [hg]
  simp
theorem due_shown {f : Pl} (h1 : -(10 ^ 40) < f.x) (h2 : f.x < 10 ^ 40) (h3 : 0 < f.y) (h4 : f.y < 10 ^ 40) : due (shown f).cps.toList = some (f.x, f.y) := by
  unfold shown
  split
  · rename_i e
    rw [e]
    exact due_sh1 h1 h2
  · rw [cat_list, cat_list, List.append_assoc]
    exact due_sh2 h1 h2 h3 h4
theorem ok_law (T : Txt K mg t) : FnOk P w K mg base CX0 5 t.f_law t.fd_law ["_law_script"] (spP K S_law) := by
  refine fnP T.F_law sc_law (fun ds Q h => by (first | (obtain ⟨_, rfl, _⟩ := h; rfl) | (obtain ⟨_, _, rfl, _⟩ := h; rfl) | (obtain ⟨_, _, _, rfl, _⟩ := h; rfl) | (obtain ⟨_, _, _, _, rfl, _⟩ := h; rfl) | (obtain ⟨_, _, _, _, _, rfl, _⟩ := h; rfl) | (obtain ⟨_, _, _, _, _, _, rfl, _⟩ := h; rfl) | (obtain ⟨_, _, _, _, _, _, _, rfl, _⟩ := h; rfl))) (fun cdv A outer s H hr => ?_)
  have hu := hr.units
  refine ⟨_, (b_cons (s_set (i := 1) sc_law.nd rfl (Or.inl rfl) (q_callP (ok__law_spoiled T) (hr.mono (by decide)) (by rfl) T.m__law_spoiled T.F__law_spoiled.kp (bd__law_spoiled T) (a_cons (q_callP (ok__law_text T) (hr.mono (by decide)) (by rfl) T.m__law_text T.F__law_text.kp (bd__law_text T) (a_cons (q_var 0) a_nil)) (a_cons (q_callP (ok__law_given T) (hr.mono (by decide)) (by rfl) T.m__law_given T.F__law_given.kp (bd__law_given T) (a_cons (q_var 0) (a_cons q_int a_nil))) (a_cons (q_callP (ok__law_given T) (hr.mono (by decide)) (by rfl) T.m__law_given T.F__law_given.kp (bd__law_given T) (a_cons (q_var 0) (a_cons q_int a_nil))) (a_cons (q_callP (ok__law_given T) (hr.mono (by decide)) (by rfl) T.m__law_given T.F__law_given.kp (bd__law_given T) (a_cons (q_var 0) (a_cons q_int a_nil))) a_nil))))))
      (b_cons (s_set (i := 2) sc_law.nd rfl (Or.inl rfl) (q_callP (ok__law_due T) (hr.mono (by decide)) (by rfl) T.m__law_due T.F__law_due.kp (bd__law_due T) (a_cons (q_var 1) a_nil)))
      (b_cons (s_if (k_cmp o_isN (q_var 2) q_non (nomark _)) (b_one (s_ret (q_callP (ok__law_refused T) (hr.mono (by decide)) (by rfl) T.m__law_refused T.F__law_refused.kp (bd__law_refused T) (a_cons (q_var 1) a_nil)))) b_nil)
      (b_cons (s_set (i := 3) sc_law.nd rfl (Or.inl rfl) (q_callP (ok__law_lowest T) (hr.mono (by decide)) (by rfl) T.m__law_lowest T.F__law_lowest.kp (bd__law_lowest T) (a_cons (q_ix (q_var 2) q_int) (a_cons (q_ix (q_var 2) q_int) a_nil))))
      (b_cons (s_if (k_not (k_val (q_callP (ok__law_same T) (hr.mono (by decide)) (by rfl) T.m__law_same T.F__law_same.kp (bd__law_same T) (a_cons (q_callP (ok_read_number T) (hr.mono (by decide)) (by rfl) T.m_read_number T.F_read_number.kp (bd_read_number T) (a_cons (q_var 1) a_nil)) (a_cons (q_var 3) a_nil))))) (b_one (s_ret q_bl)) b_nil)
      (b_cons (s_set (i := 4) sc_law.nd rfl (Or.inl rfl) (q_callP (ok__law_lowest T) (hr.mono (by decide)) (by rfl) T.m__law_lowest T.F__law_lowest.kp (bd__law_lowest T) (a_cons (q_bin o_sub (q_bin o_mod (q_callP (ok__law_given T) (hr.mono (by decide)) (by rfl) T.m__law_given T.F__law_given.kp (bd__law_given T) (a_cons (q_var 0) (a_cons q_int a_nil))) (q_bin o_mul q_int (q_bin o_pow q_int q_int))) (q_bin o_pow q_int q_int)) (a_cons (q_bin o_add q_int (q_bin o_mod (q_callP (ok__law_given T) (hr.mono (by decide)) (by rfl) T.m__law_given T.F__law_given.kp (bd__law_given T) (a_cons (q_var 0) (a_cons q_int a_nil))) (q_bin o_pow q_int q_int))) a_nil))))
      (b_cons (s_set (i := 5) sc_law.nd rfl (Or.inl rfl) (q_callP (ok_show_number T) (hr.mono (by decide)) (by rfl) T.m_show_number T.F_show_number.kp (bd_show_number T) (a_cons (q_var 3) a_nil)))
      (b_cons (s_if (PW3.pt (k_or (k_not (k_val (q_blt c_isT (by rfl) T.no_isinstance boot3_isinstance (a_cons (q_var 5) (a_cons (q_type (by rfl) T.no_str boot3_str) a_nil))))) (k_or (k_cmp (o_ne hu) (q_var 5) (q_callP (ok__law_shown T) (hr.mono (by decide)) (by rfl) T.m__law_shown T.F__law_shown.kp (bd__law_shown T) (a_cons (q_var 3) a_nil)) (nomark _)) (k_or1 (k_not (k_val (q_callP (ok__law_same T) (hr.mono (by decide)) (by rfl) T.m__law_same T.F__law_same.kp (bd__law_same T) (a_cons (q_callP (ok_read_number T) (hr.mono (by decide)) (by rfl) T.m_read_number T.F_read_number.kp (bd_read_number T) (a_cons (q_var 5) a_nil)) (a_cons (q_var 3) a_nil))))))))) (b_one (s_ret q_bl)) b_nil)
      (b_cons (s_set (i := 6) sc_law.nd rfl (Or.inl rfl) (q_callP (ok_show_point T) (hr.mono (by decide)) (by rfl) T.m_show_point T.F_show_point.kp (bd_show_point T) (a_cons (q_tup (a_cons (q_var 4) (a_cons (q_var 3) a_nil))) a_nil)))
      (b_one (s_ret (q_and (q_blt c_isT (by rfl) T.no_isinstance boot3_isinstance (a_cons (q_var 6) (a_cons (q_type (by rfl) T.no_str boot3_str) a_nil))) (q_one (q_cmp (o_eq hu) (q_var 6) (q_bin o_catS (q_bin o_catS (q_callP (ok__law_shown T) (hr.mono (by decide)) (by rfl) T.m__law_shown T.F__law_shown.kp (bd__law_shown T) (a_cons (q_var 4) a_nil)) q_str) (q_var 5)) (nomark _))))))))))))))), fun ds Q h => ?_⟩
  obtain ⟨ns, rfl, hl, h⟩ := h
  walk_at "rd"
  intro x0 hx0
  walk_at "rd"
  intro v5
  walk_at "rd"
  intro v6
  walk_at "rd"
  intro v7
  walk_at "rd"
  refine ⟨hx0, fun x hx => ?_⟩
  walk_at "rd"
  refine ⟨by omega, ?_⟩
  cases hd : due x.cps.toList with
  | none =>
    rw [show dueD x.cps.toList = .non from by unfold dueD; rw [hd]]
    walk_at "rd"
    refine ⟨by omega, hd, ?_⟩
    exact h
  | some ab =>
    obtain ⟨a, b⟩ := ab
    rw [show dueD x.cps.toList = .tup [.int a, .int b] from by unfold dueD; rw [hd]]
    have rg := due_range hd
    have sa : Sm 200 a := by
      show a.natAbs < 2 ^ 200
      omega
    have sb : Sm 200 b := by
      show b.natAbs < 2 ^ 200
      omega
    have lo := low_spec (a := a) rg.1
    have fl : frac a b = low a b := frac_low rg.1
    walk_at "rd"
    refine ⟨_, _, 200, rfl, rg.1, sa, sb, by decide, ?_⟩
    walk_at "rd"
    refine ⟨_, a, b, rfl, by omega, hd, ?_⟩
    rw [fl]
    walk_at "rd"
    intro v8
    walk_at "rd"
    intro v9
    walk_at "rd"
    have n8 := Int.emod_nonneg v8 (show (2 * 10 ^ 50 : Int) ≠ 0 by decide +kernel)
    have m8 := Int.emod_lt_of_pos v8 (show (0 : Int) < 2 * 10 ^ 50 by decide +kernel)
    have n9 := Int.emod_nonneg v9 (show (10 ^ 45 : Int) ≠ 0 by decide +kernel)
    have m9 := Int.emod_lt_of_pos v9 (show (0 : Int) < 10 ^ 45 by decide +kernel)
    have lo2 := low_spec (a := v8 % (2 * 10 ^ 50) - 10 ^ 50) (b := 1 + v9 % 10 ^ 45) (by omega)
    have s8 : Sm 200 (v8 % (2 * 10 ^ 50) - 10 ^ 50) := by
      show (v8 % (2 * 10 ^ 50) - 10 ^ 50).natAbs < 2 ^ 200
      omega
    have s9 : Sm 200 (1 + v9 % 10 ^ 45) := by
      show (1 + v9 % 10 ^ 45).natAbs < 2 ^ 200
      omega
    refine ⟨v8 % (2 * 10 ^ 50) - 10 ^ 50, 1 + v9 % 10 ^ 45, 200, rfl, by omega, s8, s9, by decide, ?_⟩
    have f1 : Fits (low a b) := ⟨by omega, by omega, by omega, by omega⟩
    have f2 : Fits (low (v8 % (2 * 10 ^ 50) - 10 ^ 50) (1 + v9 % 10 ^ 45)) := ⟨by omega, by omega, by omega, by omega⟩
    generalize low (v8 % (2 * 10 ^ 50) - 10 ^ 50) (1 + v9 % 10 ^ 45) = g at *
    walk_at "rd"
    refine ⟨f1, ?_⟩
    walk_at "rd"
    refine ⟨_, _, _, true, rfl, L3.Ty3.str _, kit_same, ?_⟩
    have hz : (1000 : Nat) < sizeLine := by decide
    have l1 := shown_len f1
    have l2 := shown_len f2
    have l3 : (Str.ofString ",").length = 1 := by decide
    have es : eqD (.str (shown (low a b))) (.str (shown (low a b))) = true := eqD_refl 0 _ rfl
    have dw : due (shown (low a b)).cps.toList = some ((low a b).x, (low a b).y) := due_shown (by omega) (by omega) lo.1 (by omega)
    walk_at "rd"
    refine ⟨f1, ?_⟩
    walk_at "rd"
    rw [es]
    walk_at "rd"
    refine ⟨_, (low a b).x, (low a b).y, rfl, by omega, dw, ?_⟩
    rw [frac_low lo.1, low_low lo.1 lo.2.2.1]
    walk_at "rd"
    refine ⟨f2, f1, ?_⟩
    walk_at "rd"
    refine ⟨_, _, _, true, rfl, L3.Ty3.str _, kit_same, ?_⟩
    walk_at "rd"
    refine ⟨f2, ?_⟩
    walk_at "rd"
    refine ⟨by omega, ?_⟩
    walk_at "rd"
    refine ⟨by rw [len_cat]; omega, ?_⟩
    walk_at "rd"
    rw [eqD_refl 0 _ rfl]
    exact h
end
theorem all_mk {l : PySem.W.OpenLaw} {w : World} {K : PySem.W.Frag} {h : Heap} {mg : Str → Option Value} {fa : Addr} (X : K.In h) (G : h.Ns mainGlobals mg) (hfa : mg "law" = some (.ref fa))
    {f0 : Addr} {od0 an0 : Option Addr} {sl0 : Array (Option Value)} {oc0 kV0 dc0 pm0 cd0 ct0 : Value}
    {f1 : Addr} {od1 an1 : Option Addr} {sl1 : Array (Option Value)} {oc1 kV1 dc1 pm1 cd1 ct1 : Value}
    {f2 : Addr} {od2 an2 : Option Addr} {sl2 : Array (Option Value)} {oc2 kV2 dc2 pm2 cd2 ct2 : Value}
    {f3 : Addr} {od3 an3 : Option Addr} {sl3 : Array (Option Value)} {oc3 kV3 dc3 pm3 cd3 ct3 : Value}
    {f4 : Addr} {od4 an4 : Option Addr} {sl4 : Array (Option Value)} {oc4 kV4 dc4 pm4 cd4 ct4 : Value}
    {f5 : Addr} {od5 an5 : Option Addr} {sl5 : Array (Option Value)} {oc5 kV5 dc5 pm5 cd5 ct5 : Value}
    {f6 : Addr} {od6 an6 : Option Addr} {sl6 : Array (Option Value)} {oc6 kV6 dc6 pm6 cd6 ct6 : Value}
    {f7 : Addr} {od7 an7 : Option Addr} {sl7 : Array (Option Value)} {oc7 kV7 dc7 pm7 cd7 ct7 : Value}
    {f8 : Addr} {od8 an8 : Option Addr} {sl8 : Array (Option Value)} {oc8 kV8 dc8 pm8 cd8 ct8 : Value}
    {f9 : Addr} {od9 an9 : Option Addr} {sl9 : Array (Option Value)} {oc9 kV9 dc9 pm9 cd9 ct9 : Value}
    {f10 : Addr} {od10 an10 : Option Addr} {sl10 : Array (Option Value)} {oc10 kV10 dc10 pm10 cd10 ct10 : Value}
    {f11 : Addr} {od11 an11 : Option Addr} {sl11 : Array (Option Value)} {oc11 kV11 dc11 pm11 cd11 ct11 : Value}
    {f12 : Addr} {od12 an12 : Option Addr} {sl12 : Array (Option Value)} {oc12 kV12 dc12 pm12 cd12 ct12 : Value}
    {f13 : Addr} {od13 an13 : Option Addr} {sl13 : Array (Option Value)} {oc13 kV13 dc13 pm13 cd13 ct13 : Value}
    {f14 : Addr} {od14 an14 : Option Addr} {sl14 : Array (Option Value)} {oc14 kV14 dc14 pm14 cd14 ct14 : Value}
    {f15 : Addr} {od15 an15 : Option Addr} {sl15 : Array (Option Value)} {oc15 kV15 dc15 pm15 cd15 ct15 : Value}
    {f16 : Addr} {od16 an16 : Option Addr} {sl16 : Array (Option Value)} {oc16 kV16 dc16 pm16 cd16 ct16 : Value}
    {f17 : Addr} {od17 an17 : Option Addr} {sl17 : Array (Option Value)} {oc17 kV17 dc17 pm17 cd17 ct17 : Value}
    {k_FIGURES : Tok}
    {c_NearError c_NoNumber c_Flat c_Twice c_NoPlace c_Stiff c_Crossed : Addr}
    (a0 : PySem.W.nsIn K mainGlobals "_law_spoiled" = some (some (.ref f0))) (l0 : K.lookup f0 = some ⟨oc0, od0, .func (PySem.W.fnOf "_law_spoiled" "_law_spoiled" (defArgs s__law_spoiled) (defBody s__law_spoiled) (defScope s__law_spoiled) .none kV0 dc0 pm0 an0 cd0 ct0), sl0⟩) (c0 : PySem.W.codeIn K cd0 "_law_spoiled" = true) (k0 : PySem.W.keepIn K (.ref f0) = true)
    (a1 : PySem.W.nsIn K mainGlobals "_law_due" = some (some (.ref f1))) (l1 : K.lookup f1 = some ⟨oc1, od1, .func (PySem.W.fnOf "_law_due" "_law_due" (defArgs s__law_due) (defBody s__law_due) (defScope s__law_due) .none kV1 dc1 pm1 an1 cd1 ct1), sl1⟩) (c1 : PySem.W.codeIn K cd1 "_law_due" = true) (k1 : PySem.W.keepIn K (.ref f1) = true)
    (a2 : PySem.W.nsIn K mainGlobals "_law_lowest" = some (some (.ref f2))) (l2 : K.lookup f2 = some ⟨oc2, od2, .func (PySem.W.fnOf "_law_lowest" "_law_lowest" (defArgs s__law_lowest) (defBody s__law_lowest) (defScope s__law_lowest) .none kV2 dc2 pm2 an2 cd2 ct2), sl2⟩) (c2 : PySem.W.codeIn K cd2 "_law_lowest" = true) (k2 : PySem.W.keepIn K (.ref f2) = true)
    (a3 : PySem.W.nsIn K mainGlobals "show_number" = some (some (.ref f3))) (l3 : K.lookup f3 = some ⟨oc3, od3, .func (PySem.W.fnOf "show_number" "show_number" (defArgs s_show_number) (defBody s_show_number) (defScope s_show_number) .none kV3 dc3 pm3 an3 cd3 ct3), sl3⟩) (c3 : PySem.W.codeIn K cd3 "show_number" = true) (k3 : PySem.W.keepIn K (.ref f3) = true)
    (a4 : PySem.W.nsIn K mainGlobals "show_point" = some (some (.ref f4))) (l4 : K.lookup f4 = some ⟨oc4, od4, .func (PySem.W.fnOf "show_point" "show_point" (defArgs s_show_point) (defBody s_show_point) (defScope s_show_point) .none kV4 dc4 pm4 an4 cd4 ct4), sl4⟩) (c4 : PySem.W.codeIn K cd4 "show_point" = true) (k4 : PySem.W.keepIn K (.ref f4) = true)
    (a5 : PySem.W.nsIn K mainGlobals "_law_given" = some (some (.ref f5))) (l5 : K.lookup f5 = some ⟨oc5, od5, .func (PySem.W.fnOf "_law_given" "_law_given" (defArgs s__law_given) (defBody s__law_given) (defScope s__law_given) .none kV5 dc5 pm5 an5 cd5 ct5), sl5⟩) (c5 : PySem.W.codeIn K cd5 "_law_given" = true) (k5 : PySem.W.keepIn K (.ref f5) = true)
    (a6 : PySem.W.nsIn K mainGlobals "_law_figures" = some (some (.ref f6))) (l6 : K.lookup f6 = some ⟨oc6, od6, .func (PySem.W.fnOf "_law_figures" "_law_figures" (defArgs s__law_figures) (defBody s__law_figures) (defScope s__law_figures) .none kV6 dc6 pm6 an6 cd6 ct6), sl6⟩) (c6 : PySem.W.codeIn K cd6 "_law_figures" = true) (k6 : PySem.W.keepIn K (.ref f6) = true)
    (a7 : PySem.W.nsIn K mainGlobals "_law_text" = some (some (.ref f7))) (l7 : K.lookup f7 = some ⟨oc7, od7, .func (PySem.W.fnOf "_law_text" "_law_text" (defArgs s__law_text) (defBody s__law_text) (defScope s__law_text) .none kV7 dc7 pm7 an7 cd7 ct7), sl7⟩) (c7 : PySem.W.codeIn K cd7 "_law_text" = true) (k7 : PySem.W.keepIn K (.ref f7) = true)
    (a8 : PySem.W.nsIn K mainGlobals "common_divisor" = some (some (.ref f8))) (l8 : K.lookup f8 = some ⟨oc8, od8, .func (PySem.W.fnOf "common_divisor" "common_divisor" (defArgs s_common_divisor) (defBody s_common_divisor) (defScope s_common_divisor) .none kV8 dc8 pm8 an8 cd8 ct8), sl8⟩) (c8 : PySem.W.codeIn K cd8 "common_divisor" = true) (k8 : PySem.W.keepIn K (.ref f8) = true)
    (a9 : PySem.W.nsIn K mainGlobals "sign" = some (some (.ref f9))) (l9 : K.lookup f9 = some ⟨oc9, od9, .func (PySem.W.fnOf "sign" "sign" (defArgs s_sign) (defBody s_sign) (defScope s_sign) .none kV9 dc9 pm9 an9 cd9 ct9), sl9⟩) (c9 : PySem.W.codeIn K cd9 "sign" = true) (k9 : PySem.W.keepIn K (.ref f9) = true)
    (a10 : PySem.W.nsIn K mainGlobals "fraction" = some (some (.ref f10))) (l10 : K.lookup f10 = some ⟨oc10, od10, .func (PySem.W.fnOf "fraction" "fraction" (defArgs s_fraction) (defBody s_fraction) (defScope s_fraction) .none kV10 dc10 pm10 an10 cd10 ct10), sl10⟩) (c10 : PySem.W.codeIn K cd10 "fraction" = true) (k10 : PySem.W.keepIn K (.ref f10) = true)
    (a11 : PySem.W.nsIn K mainGlobals "has_only" = some (some (.ref f11))) (l11 : K.lookup f11 = some ⟨oc11, od11, .func (PySem.W.fnOf "has_only" "has_only" (defArgs s_has_only) (defBody s_has_only) (defScope s_has_only) .none kV11 dc11 pm11 an11 cd11 ct11), sl11⟩) (c11 : PySem.W.codeIn K cd11 "has_only" = true) (k11 : PySem.W.keepIn K (.ref f11) = true)
    (a12 : PySem.W.nsIn K mainGlobals "is_figures" = some (some (.ref f12))) (l12 : K.lookup f12 = some ⟨oc12, od12, .func (PySem.W.fnOf "is_figures" "is_figures" (defArgs s_is_figures) (defBody s_is_figures) (defScope s_is_figures) .none kV12 dc12 pm12 an12 cd12 ct12), sl12⟩) (c12 : PySem.W.codeIn K cd12 "is_figures" = true) (k12 : PySem.W.keepIn K (.ref f12) = true)
    (a13 : PySem.W.nsIn K mainGlobals "read_number" = some (some (.ref f13))) (l13 : K.lookup f13 = some ⟨oc13, od13, .func (PySem.W.fnOf "read_number" "read_number" (defArgs s_read_number) (defBody s_read_number) (defScope s_read_number) .none kV13 dc13 pm13 an13 cd13 ct13), sl13⟩) (c13 : PySem.W.codeIn K cd13 "read_number" = true) (k13 : PySem.W.keepIn K (.ref f13) = true)
    (a14 : PySem.W.nsIn K mainGlobals "_law_refused" = some (some (.ref f14))) (l14 : K.lookup f14 = some ⟨oc14, od14, .func (PySem.W.fnOf "_law_refused" "_law_refused" (defArgs s__law_refused) (defBody s__law_refused) (defScope s__law_refused) .none kV14 dc14 pm14 an14 cd14 ct14), sl14⟩) (c14 : PySem.W.codeIn K cd14 "_law_refused" = true) (k14 : PySem.W.keepIn K (.ref f14) = true)
    (a15 : PySem.W.nsIn K mainGlobals "_law_same" = some (some (.ref f15))) (l15 : K.lookup f15 = some ⟨oc15, od15, .func (PySem.W.fnOf "_law_same" "_law_same" (defArgs s__law_same) (defBody s__law_same) (defScope s__law_same) .none kV15 dc15 pm15 an15 cd15 ct15), sl15⟩) (c15 : PySem.W.codeIn K cd15 "_law_same" = true) (k15 : PySem.W.keepIn K (.ref f15) = true)
    (a16 : PySem.W.nsIn K mainGlobals "_law_shown" = some (some (.ref f16))) (l16 : K.lookup f16 = some ⟨oc16, od16, .func (PySem.W.fnOf "_law_shown" "_law_shown" (defArgs s__law_shown) (defBody s__law_shown) (defScope s__law_shown) .none kV16 dc16 pm16 an16 cd16 ct16), sl16⟩) (c16 : PySem.W.codeIn K cd16 "_law_shown" = true) (k16 : PySem.W.keepIn K (.ref f16) = true)
    (a17 : PySem.W.nsIn K mainGlobals "law" = some (some (.ref f17))) (l17 : K.lookup f17 = some ⟨oc17, od17, .func (PySem.W.fnOf "law" "law" (defArgs s_law) (defBody s_law) (defScope s_law) .none kV17 dc17 pm17 an17 cd17 ct17), sl17⟩) (c17 : PySem.W.codeIn K cd17 "law" = true) (k17 : PySem.W.keepIn K (.ref f17) = true)
    (z0 : PySem.W.nsIn K mainGlobals "len" = some none)
    (z1 : PySem.W.nsIn K mainGlobals "int" = some none)
    (z2 : PySem.W.nsIn K mainGlobals "abs" = some none)
    (z3 : PySem.W.nsIn K mainGlobals "str" = some none)
    (z4 : PySem.W.nsIn K mainGlobals "min" = some none)
    (z5 : PySem.W.nsIn K mainGlobals "all" = some none)
    (z6 : PySem.W.nsIn K mainGlobals "isinstance" = some none)
    (z7 : PySem.W.nsIn K mainGlobals "ValueError" = some none)
    (z8 : PySem.W.nsIn K mainGlobals "tuple" = some none)
    (z9 : PySem.W.nsIn K mainGlobals "bool" = some none)
    (g_FIGURES : PySem.W.nsIn K mainGlobals "FIGURES" = some (some (.str (Str.ofString "0123456789") k_FIGURES)))
    (y_NearError : PySem.W.nsIn K mainGlobals "NearError" = some (some (.ref c_NearError)))
    (y_NoNumber : PySem.W.nsIn K mainGlobals "NoNumber" = some (some (.ref c_NoNumber)))
    (y_Flat : PySem.W.nsIn K mainGlobals "Flat" = some (some (.ref c_Flat)))
    (y_Twice : PySem.W.nsIn K mainGlobals "Twice" = some (some (.ref c_Twice)))
    (y_NoPlace : PySem.W.nsIn K mainGlobals "NoPlace" = some (some (.ref c_NoPlace)))
    (y_Stiff : PySem.W.nsIn K mainGlobals "Stiff" = some (some (.ref c_Stiff)))
    (y_Crossed : PySem.W.nsIn K mainGlobals "Crossed" = some (some (.ref c_Crossed)))
    (x0_NearError : PySem.W.findIn K (.ref c_NearError) "__getattribute__" = some (some (.builtin "BaseException.__getattribute__")))
    (x1_NearError : PySem.W.findIn K (.ref c_NearError) "__getattr__" = some none)
    (x2_NearError : PySem.W.findIn K (.ref c_NearError) "__class__" = some (some (.builtin "object.__class__")))
    (x3_NearError : PySem.W.subIn K (.ref c_NearError) (.type "BaseException") = some true)
    (x4_NearError : PySem.W.mroIn K c_NearError (.type "object") = some true)
    (x5_NearError : PySem.W.isClsIn K c_NearError = true)
    (x6_NearError : PySem.W.excIn K c_NearError bmVE "ValueError.__new__" = true)
    (x0_NoNumber : PySem.W.findIn K (.ref c_NoNumber) "__getattribute__" = some (some (.builtin "BaseException.__getattribute__")))
    (x1_NoNumber : PySem.W.findIn K (.ref c_NoNumber) "__getattr__" = some none)
    (x2_NoNumber : PySem.W.findIn K (.ref c_NoNumber) "__class__" = some (some (.builtin "object.__class__")))
    (x3_NoNumber : PySem.W.subIn K (.ref c_NoNumber) (.type "BaseException") = some true)
    (x4_NoNumber : PySem.W.mroIn K c_NoNumber (.type "object") = some true)
    (x5_NoNumber : PySem.W.isClsIn K c_NoNumber = true)
    (x6_NoNumber : PySem.W.excIn K c_NoNumber bmVE "ValueError.__new__" = true)
    (sb : PySem.W.subIn K (.ref c_NoNumber) (.ref c_NearError) = some true)
    (kxV : PySem.W.kitOne K (.ref c_NoNumber) (.type "ValueError") = some true)
    (kx_NoNumber : PySem.W.kitOne K (.ref c_NoNumber) (.ref c_NoNumber) = some true)
    (kx_Flat : PySem.W.kitOne K (.ref c_NoNumber) (.ref c_Flat) = some false)
    (kx_Twice : PySem.W.kitOne K (.ref c_NoNumber) (.ref c_Twice) = some false)
    (kx_NoPlace : PySem.W.kitOne K (.ref c_NoNumber) (.ref c_NoPlace) = some false)
    (kx_Stiff : PySem.W.kitOne K (.ref c_NoNumber) (.ref c_Stiff) = some false)
    (kx_Crossed : PySem.W.kitOne K (.ref c_NoNumber) (.ref c_Crossed) = some false) :
    ∃ fd : FuncData, (∀ (s : Shared) (v : Value), BindsTo s fd ⟨[v], []⟩ [("_law_script", v)]) ∧ ∀ base : Heap, K.In base → base.Ns mainGlobals mg → FnOk l.prog w K mg base CX0 5 fa fd ["_law_script"] (spP K S_law) := by
  have e := hfa.symm.trans (PySem.W.mg_of X G a17)
  cases e
  have T : Txt K mg ⟨_, _, _, _, _, _, _, _, _, _, _, _, _, _, _, _, _, _, _, _, _, _, _, _, _, _, _, _, _, _, _, _, _, _, _, _, _, _, _, _, _, _, _, _⟩ := ⟨fun_mk (st := s__law_spoiled) l0 c0 k0, PySem.W.mg_of X G a0, fun_mk (st := s__law_due) l1 c1 k1, PySem.W.mg_of X G a1, fun_mk (st := s__law_lowest) l2 c2 k2, PySem.W.mg_of X G a2, fun_mk (st := s_show_number) l3 c3 k3, PySem.W.mg_of X G a3, fun_mk (st := s_show_point) l4 c4 k4, PySem.W.mg_of X G a4, fun_mk (st := s__law_given) l5 c5 k5, PySem.W.mg_of X G a5, fun_mk (st := s__law_figures) l6 c6 k6, PySem.W.mg_of X G a6, fun_mk (st := s__law_text) l7 c7 k7, PySem.W.mg_of X G a7, fun_mk (st := s_common_divisor) l8 c8 k8, PySem.W.mg_of X G a8, fun_mk (st := s_sign) l9 c9 k9, PySem.W.mg_of X G a9, fun_mk (st := s_fraction) l10 c10 k10, PySem.W.mg_of X G a10, fun_mk (st := s_has_only) l11 c11 k11, PySem.W.mg_of X G a11, fun_mk (st := s_is_figures) l12 c12 k12, PySem.W.mg_of X G a12, fun_mk (st := s_read_number) l13 c13 k13, PySem.W.mg_of X G a13, fun_mk (st := s__law_refused) l14 c14 k14, PySem.W.mg_of X G a14, fun_mk (st := s__law_same) l15 c15 k15, PySem.W.mg_of X G a15, fun_mk (st := s__law_shown) l16 c16 k16, PySem.W.mg_of X G a16, fun_mk (st := s_law) l17 c17 k17, PySem.W.mg_of X G a17, PySem.W.mg_none_of X G z0, PySem.W.mg_none_of X G z1, PySem.W.mg_none_of X G z2, PySem.W.mg_none_of X G z3, PySem.W.mg_none_of X G z4, PySem.W.mg_none_of X G z5, PySem.W.mg_none_of X G z6, PySem.W.mg_none_of X G z7, PySem.W.mg_none_of X G z8, PySem.W.mg_none_of X G z9, PySem.W.mg_of X G g_FIGURES, PySem.W.mg_of X G y_NearError, PySem.W.mg_of X G y_NoNumber, PySem.W.mg_of X G y_Flat, PySem.W.mg_of X G y_Twice, PySem.W.mg_of X G y_NoPlace, PySem.W.mg_of X G y_Stiff, PySem.W.mg_of X G y_Crossed, ⟨⟨x0_NearError, x1_NearError, x2_NearError, x3_NearError, x4_NearError, x5_NearError⟩, x6_NearError⟩, ⟨⟨x0_NoNumber, x1_NoNumber, x2_NoNumber, x3_NoNumber, x4_NoNumber, x5_NoNumber⟩, x6_NoNumber⟩, sb, kxV, kx_NoNumber, kx_Flat, kx_Twice, kx_NoPlace, kx_Stiff, kx_Crossed⟩
  exact ⟨_, fun s v => .of_eq rfl, fun base _ _ => ok_law T⟩
end Pf
open PySem PySem.W PyProof.Rows
set_option maxRecDepth 100000 in
set_option maxHeartbeats 0 in
theorem PySem.Challenge.cw_nearland_k91_numbers_written_holds : PySem.Challenge.rw_nearland_k91_numbers_written.Holds := by
  w_on; o_law; k_head; (case hw => w_witness2)
  k_fill
  refine L2.walk_ofK (l := PySem.Challenge.rw_nearland_k91_numbers_written) (n := 63) (k := 5) (x := "_law_script") (CX := L2.CX0) (sp := fun K => L3.spP K Pf.S_law) rfl (by decide) rfl ⟨rfl, by decide, by decide⟩ (fun w h Y => PySem.W.kIn_of Y) ?F (fun K H a ns hl hO hS => L3.law_sp hl hO hS) (fun _ _ _ _ z => z)
  case F =>
    intro w mg fa h KX G hmg
    refine' Pf.all_mk KX G hmg ?a0 ?l0 ?c0 ?k0 ?a1 ?l1 ?c1 ?k1 ?a2 ?l2 ?c2 ?k2 ?a3 ?l3 ?c3 ?k3 ?a4 ?l4 ?c4 ?k4 ?a5 ?l5 ?c5 ?k5 ?a6 ?l6 ?c6 ?k6 ?a7 ?l7 ?c7 ?k7 ?a8 ?l8 ?c8 ?k8 ?a9 ?l9 ?c9 ?k9 ?a10 ?l10 ?c10 ?k10 ?a11 ?l11 ?c11 ?k11 ?a12 ?l12 ?c12 ?k12 ?a13 ?l13 ?c13 ?k13 ?a14 ?l14 ?c14 ?k14 ?a15 ?l15 ?c15 ?k15 ?a16 ?l16 ?c16 ?k16 ?a17 ?l17 ?c17 ?k17 ?z0 ?z1 ?z2 ?z3 ?z4 ?z5 ?z6 ?z7 ?z8 ?z9 ?g_FIGURES ?y_NearError ?y_NoNumber ?y_Flat ?y_Twice ?y_NoPlace ?y_Stiff ?y_Crossed ?x0_NearError ?x1_NearError ?x2_NearError ?x3_NearError ?x4_NearError ?x5_NearError ?x6_NearError ?x0_NoNumber ?x1_NoNumber ?x2_NoNumber ?x3_NoNumber ?x4_NoNumber ?x5_NoNumber ?x6_NoNumber ?sb ?kxV ?kx_NoNumber ?kx_Flat ?kx_Twice ?kx_NoPlace ?kx_Stiff ?kx_Crossed
    (case a0 => k_is)
    (case l0 => k_is)
    (case c0 => k_is)
    (case k0 => k_is)
    (case a1 => k_is)
    (case l1 => k_is)
    (case c1 => k_is)
    (case k1 => k_is)
    (case a2 => k_is)
    (case l2 => k_is)
    (case c2 => k_is)
    (case k2 => k_is)
    (case a3 => k_is)
    (case l3 => k_is)
    (case c3 => k_is)
    (case k3 => k_is)
    (case a4 => k_is)
    (case l4 => k_is)
    (case c4 => k_is)
    (case k4 => k_is)
    (case a5 => k_is)
    (case l5 => k_is)
    (case c5 => k_is)
    (case k5 => k_is)
    (case a6 => k_is)
    (case l6 => k_is)
    (case c6 => k_is)
    (case k6 => k_is)
    (case a7 => k_is)
    (case l7 => k_is)
    (case c7 => k_is)
    (case k7 => k_is)
    (case a8 => k_is)
    (case l8 => k_is)
    (case c8 => k_is)
    (case k8 => k_is)
    (case a9 => k_is)
    (case l9 => k_is)
    (case c9 => k_is)
    (case k9 => k_is)
    (case a10 => k_is)
    (case l10 => k_is)
    (case c10 => k_is)
    (case k10 => k_is)
    (case a11 => k_is)
    (case l11 => k_is)
    (case c11 => k_is)
    (case k11 => k_is)
    (case a12 => k_is)
    (case l12 => k_is)
    (case c12 => k_is)
    (case k12 => k_is)
    (case a13 => k_is)
    (case l13 => k_is)
    (case c13 => k_is)
    (case k13 => k_is)
    (case a14 => k_is)
    (case l14 => k_is)
    (case c14 => k_is)
    (case k14 => k_is)
    (case a15 => k_is)
    (case l15 => k_is)
    (case c15 => k_is)
    (case k15 => k_is)
    (case a16 => k_is)
    (case l16 => k_is)
    (case c16 => k_is)
    (case k16 => k_is)
    (case a17 => k_is)
    (case l17 => k_is)
    (case c17 => k_is)
    (case k17 => k_is)
    (case z0 => k_is)
    (case z1 => k_is)
    (case z2 => k_is)
    (case z3 => k_is)
    (case z4 => k_is)
    (case z5 => k_is)
    (case z6 => k_is)
    (case z7 => k_is)
    (case z8 => k_is)
    (case z9 => k_is)
    (case g_FIGURES => k_is)
    (case y_NearError => k_is)
    (case y_NoNumber => k_is)
    (case y_Flat => k_is)
    (case y_Twice => k_is)
    (case y_NoPlace => k_is)
    (case y_Stiff => k_is)
    (case y_Crossed => k_is)
    (case x0_NearError => k_is)
    (case x1_NearError => k_is)
    (case x2_NearError => k_is)
    (case x3_NearError => k_is)
    (case x4_NearError => k_is)
    (case x5_NearError => k_is)
    (case x6_NearError => k_exc)
    (case x0_NoNumber => k_is)
    (case x1_NoNumber => k_is)
    (case x2_NoNumber => k_is)
    (case x3_NoNumber => k_is)
    (case x4_NoNumber => k_is)
    (case x5_NoNumber => k_is)
    (case x6_NoNumber => k_exc)
    (case sb => k_is)
    (case kxV => kit_is)
    (case kx_NoNumber => kit_is)
    (case kx_Flat => kit_is)
    (case kx_Twice => kit_is)
    (case kx_NoPlace => kit_is)
    (case kx_Stiff => kit_is)
    (case kx_Crossed => kit_is)

