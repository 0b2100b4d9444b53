import PyProof.Rows.All
import Wide.All
import OpenK.AllK
import Wide.FinOn
import Lean
import PyProof.EqAt
import PyProof.EqKinds
import PyProof.TupleCall
import PySem.Challenge.RW_nearland_k32_two_cuts
set_option Elab.async false
set_option linter.all false
set_option maxRecDepth 100000
namespace L2
open PySem PySem.Spec PyProof.Rows
abbrev Key := Sum Int Str
def keyIs : Key → Value → Bool
  | .inl k, v => Value.isInt k v
  | .inr x, v => Value.isStrOf x v
def keyH (w : World) : Key → Int
  | .inl k => hashInt k
  | .inr x => hashStr w x
theorem keyIs_shape : ∀ {k : Key} {v : Value}, keyIs k v = true → (∃ i t, k = Sum.inl i ∧ v = Value.int i t) ∨ (∃ x t, k = Sum.inr x ∧ v = Value.str x t)
  | .inl i, v, h => by
    obtain ⟨t, e⟩ := Value.isInt_shape (k := i) (v := v) h
    exact .inl ⟨i, t, rfl, e⟩
  | .inr x, v, h => by
    obtain ⟨t, e⟩ := Value.isStrOf_shape (x := x) (v := v) h
    exact .inr ⟨x, t, rfl, e⟩
theorem key_ll (a b : Int) : decide ((Sum.inl a : Key) = Sum.inl b) = (a == b) := by
  by_cases e : a = b
  · subst e; simp
  · have h : ¬ (Sum.inl a : Key) = Sum.inl b := fun q => e (Sum.inl.inj q)
    rw [decide_eq_false h]
    exact (beq_eq_false_iff_ne.mpr e).symm
theorem key_rr (a b : Str) : decide ((Sum.inr a : Key) = Sum.inr b) = decide (a = b) := by
  by_cases e : a = b
  · subst e; simp
  · have h : ¬ (Sum.inr a : Key) = Sum.inr b := fun q => e (Sum.inr.inj q)
    rw [decide_eq_false h, decide_eq_false e]
theorem key_lr (a : Int) (b : Str) : decide ((Sum.inl a : Key) = Sum.inr b) = false := decide_eq_false (fun q => nomatch q)
theorem key_rl (a : Str) (b : Int) : decide ((Sum.inr a : Key) = Sum.inl b) = false := decide_eq_false (fun q => nomatch q)
def mixKind (prog : Program) (w : World) : PySem.KeyKind prog w Key where
  is := keyIs
  hash := keyH w
  inj := fun v a b ha hb => by
    rcases keyIs_shape ha with ⟨i, t, rfl, rfl⟩ | ⟨x, t, rfl, rfl⟩
    · rcases keyIs_shape hb with ⟨j, u, rfl, e⟩ | ⟨y, u, rfl, e⟩
      · injection e with e1 _; rw [e1]
      · exact nomatch e
    · rcases keyIs_shape hb with ⟨j, u, rfl, e⟩ | ⟨y, u, rfl, e⟩
      · exact nomatch e
      · injection e with e1 _; rw [e1]
  byValue := fun k v h => by
    rcases keyIs_shape h with ⟨i, t, rfl, rfl⟩ | ⟨x, t, rfl, rfl⟩ <;> rfl
  pyHash := fun hv h => by
    rcases keyIs_shape hv with ⟨i, t, rfl, rfl⟩ | ⟨x, t, rfl, rfl⟩
    · exact wpAny_pyHash_int h
    · exact wpAny_pyHash_str h
  eqBool := fun hu hv h => by
    rcases keyIs_shape hu with ⟨i, t, rfl, rfl⟩ | ⟨x, t, rfl, rfl⟩
    · rcases keyIs_shape hv with ⟨j, u, rfl, rfl⟩ | ⟨y, u, rfl, rfl⟩
      · rw [key_ll] at h; exact wpAny_eqBool_int h
      · rw [key_lr] at h; exact SeqAt.EqAt.int_str i t y u _ _ _ _ h
    · rcases keyIs_shape hv with ⟨j, u, rfl, rfl⟩ | ⟨y, u, rfl, rfl⟩
      · rw [key_rl] at h; exact SeqAt.EqAt.str_int x t j u _ _ _ _ h
      · rw [key_rr] at h; exact wpAny_eqBool_str h
  «strs» := fun k x t v h => by
    rcases keyIs_shape h with ⟨i, u, rfl, e⟩ | ⟨y, u, rfl, e⟩
    · exact nomatch e
    · injection e with e1 _
      subst e1
      cases v <;> rfl
end L2
namespace L2
open PySem PySem.Spec PyProof.Rows
inductive V where
  | non | bl (b : Bool) | int (i : Int) | str (x : Str) | byt (b : Array UInt8) | flt (b : UInt64) | ref (a : Addr) | ty (n : String)
  deriving DecidableEq
def RelV : V → Value → Prop
  | .non, u => u = Value.none
  | .bl b, u => u = Value.bool b
  | .int i, u => ∃ t, u = Value.int i t
  | .str x, u => ∃ t, u = Value.str x t
  | .byt b, u => ∃ t, u = Value.bytes b t
  | .flt b, u => ∃ t, u = Value.float b t
  | .ref a, u => u = Value.ref a
  | .ty n, u => u = Value.type n
abbrev Vals : List V → List Value → Prop := Paired RelV
theorem Vals.length {xs : List V} {us : List Value} (r : Vals xs us) : xs.length = us.length := Paired.length r
theorem Vals.get : ∀ {xs : List V} {us : List Value} {i : Nat} {x : V}, Vals xs us → xs[i]? = some x → ∃ u, us[i]? = some u ∧ RelV x u
  | _, _, _, _, .nil, e => by simp at e
  | _, _, 0, _, .cons r _, e => by simp at e; subst e; exact ⟨_, rfl, r⟩
  | _, _, i + 1, x, .cons _ t, e => by
    obtain ⟨u, h1, h2⟩ := Vals.get (i := i) (x := x) t (by simpa using e)
    exact ⟨u, by simpa using h1, h2⟩
theorem Vals.set {x : V} {u : Value} (r : RelV x u) : ∀ {xs : List V} {us : List Value} (i : Nat), Vals xs us → Vals (xs.set i x) (us.set i u)
  | _, _, _, .nil => .nil
  | _, _, 0, .cons _ t => .cons r t
  | _, _, i + 1, .cons q t => .cons q (Vals.set r i t)
theorem Vals.append : ∀ {xs ys : List V} {us ws : List Value}, Vals xs us → Vals ys ws → Vals (xs ++ ys) (us ++ ws)
  | _, _, _, _, .nil, s => s
  | _, _, _, _, .cons r t, s => .cons r (Vals.append t s)
theorem Vals.take : ∀ {xs : List V} {us : List Value} (n : Nat), Vals xs us → Vals (xs.take n) (us.take n)
  | _, _, 0, _ => .nil
  | _, _, _ + 1, .nil => .nil
  | _, _, n + 1, .cons r t => .cons r (Vals.take n t)
theorem Vals.drop : ∀ {xs : List V} {us : List Value} (n : Nat), Vals xs us → Vals (xs.drop n) (us.drop n)
  | _, _, 0, r => r
  | _, _, _ + 1, .nil => .nil
  | _, _, n + 1, .cons _ t => Vals.drop n t
theorem Vals.none_of : ∀ {xs : List V} {us : List Value} {i : Nat}, Vals xs us → xs[i]? = none → us[i]? = none := fun {xs us i} r e => by
  have h1 := r.length
  have h2 : xs.length ≤ i := List.getElem?_eq_none_iff.mp e
  exact List.getElem?_eq_none_iff.mpr (by omega)
def RelO : Option V → Option Value → Prop
  | some v, some u => RelV v u
  | none, none => True
  | _, _ => False
def KV {κ : Type} : List (κ × V) → List (κ × Value) → Prop := Paired fun (p : κ × V) (q : κ × Value) => p.1 = q.1 ∧ RelV p.2 q.2
def kV : Key → V
  | .inl i => .int i
  | .inr x => .str x
inductive HO where
  | lst (xs : List V)
  | tup (xs : List V)
  | dK (kvs : List (Key × V)) | dT (kvs : List (List Key × V))
  | set (S : Int → Bool) (n : Nat)
  | ins (C dx : Addr) (fs : List (Str × V))
  | own (x : Addr)
  | xd (fs : List (Str × V))
  | met (f x : Addr)
  | rng (lo hi : Int)
  | frz (o : Obj) (u : HO)
  | tbl (ps : Array Value)
  | ext (φ : Heap → Prop)
abbrev Hp := Addr → Option HO
def upd (H : Hp) (a : Addr) (o : HO) : Hp := fun b => if b = a then some o else H b
theorem upd_same {H : Hp} {a : Addr} {o : HO} : upd H a o a = some o := by unfold upd; rw [if_pos rfl]
theorem upd_ne {H : Hp} {a b : Addr} {o : HO} (h : b ≠ a) : upd H a o b = H b := by unfold upd; rw [if_neg h]
theorem ne_of {H : Hp} {a b : Addr} {o u : HO} (h : H a = some o) (h' : H b = some u) (d : o ≠ u) : a ≠ b := by
  intro e; subst e; rw [h] at h'; exact d (Option.some.inj h')
theorem ne_of_none {H : Hp} {a b : Addr} {o : HO} (h : H a = some o) (h' : H b = none) : a ≠ b := by
  intro e; subst e; rw [h] at h'; cases h'
section
variable (P : Program) (w : World)
def ObjOk (H : Hp) (h : Heap) (a : Addr) : HO → Prop
  | .lst xs => xs.length ≤ sizeLine ∧ ∃ (its : List Value) (n : Nat), Vals xs its ∧ h.get? a = some { cls := .type "list", data := .seq its.toArray n }
  | .tup xs => xs.length ≤ sizeLine ∧ ∃ its : List Value, Vals xs its ∧ IsTup h a its.toArray
  | .dK kvs => kvs.length ≤ sizeLine ∧ (a == sysModules) = false ∧ ∃ vs, KV kvs vs ∧ h.DictOf (mixKind P w) a vs
  | .dT kvs => kvs.length ≤ sizeLine ∧ (a == sysModules) = false ∧ ∃ xs : List (List Key × Addr × Value),
      Paired (fun (p : List Key × V) (q : List Key × Addr × Value) => p.1 = q.1 ∧ H q.2.1 = some (.tup (p.1.map kV)) ∧ RelV p.2 q.2.2) kvs xs ∧
      ∃ o es ep, h.get? a = some o ∧ o.ExactDict ∧ o.data = .dict es ep ∧ es.toList = xs.map (entryOfKey (tupleKind (mixKind P w))) ∧ (xs.map (·.1)).Nodup
  | .set S n => h.SetOf (intKind P w) a S n
  | .ins C dx fs => H dx = some (.own a) ∧ fs.length ≤ 1000 ∧ dx ≠ a ∧ h.get? a = some (PySem.W.instObj C dx) ∧
      ∃ mA, h.Ns1 dx mA ∧ (∀ f, RelO (fs.lookup f) (mA f)) ∧ PySem.Within mA (fs.map (·.1))
  | .own _ => ∃ o, h.get? a = some o
  | .xd fs => ∃ mA, h.Ns1 a mA ∧ ∀ f, RelO (fs.lookup f) (mA f)
  | .rng lo hi => ∃ t u v, h.get? a = some { cls := .type "range", data := .fields #[.int lo t, .int hi u, .int 1 v] }
  | .frz o u => h.get? a = some o ∧ ObjOk H h a u
  | .tbl ps => h.get? a = some { cls := .none, data := .fields ps }
  | .met f x => h.get? a = some (PySem.W.methodObj (.ref f) (.ref x))
  | .ext φ => φ h ∧ (∃ o, h.get? a = some o) ∧ ∀ h1 h2 : Heap, φ h1 → (∀ o, h1.get? a = some o → h2.get? a = some o) → φ h2
def HOk (H : Hp) (h : Heap) : Prop := ∀ a o, H a = some o → ObjOk P w H h a o
end
section
variable {P : Program} {w : World} {H H' : Hp} {h h' : Heap} {a : Addr} {o : HO}
theorem ObjOk.lt (x : ObjOk P w H h a o) : a < h.objs.size := by
  cases o with
  | lst xs => obtain ⟨_, _, _, _, e⟩ := x; exact Heap.lt_size e
  | tup xs => obtain ⟨_, _, _, p⟩ := x; exact p.lt
  | dK kvs => obtain ⟨_, _, _, _, o, _, _, e, _⟩ := x; exact Heap.lt_size e
  | dT kvs => obtain ⟨_, _, _, _, o, _, _, e, _⟩ := x; exact Heap.lt_size e
  | set S n => obtain ⟨o, _, _, _, e, _⟩ := x; exact Heap.lt_size e
  | ins C dx fs => obtain ⟨_, _, _, e, _⟩ := x; exact Heap.lt_size e
  | own y => obtain ⟨_, e⟩ := x; exact Heap.lt_size e
  | xd fs => obtain ⟨_, ⟨_, _, _, e, _⟩, _⟩ := x; exact Heap.lt_size e
  | rng lo hi => obtain ⟨_, _, _, e⟩ := x; exact Heap.lt_size e
  | frz ob u => obtain ⟨e, _⟩ := x; exact Heap.lt_size e
  | tbl ps => exact Heap.lt_size (show h.get? a = some _ from x)
  | met f y => exact Heap.lt_size (show h.get? a = some _ from x)
  | ext φ => obtain ⟨_, ⟨_, e⟩, _⟩ := x; exact Heap.lt_size e
theorem Paired.mapP {α β : Type} {F G : α → β → Prop} : ∀ {l₁ : List α} {l₂ : List β}, Paired F l₁ l₂ → (∀ a b, F a b → G a b) → Paired G l₁ l₂
  | _, _, .nil, _ => .nil
  | _, _, .cons r t, f => .cons (f _ _ r) (Paired.mapP t f)
theorem ObjOk.stay (x : ObjOk P w H h a o) (k : ∀ b u, (b = a ∨ H b = some (.own a)) → h.get? b = some u → h'.get? b = some u)
    (ho : ∀ b, H b = some (.own a) → H' b = some (.own a)) (ht : ∀ b xs, H b = some (.tup xs) → H' b = some (.tup xs)) : ObjOk P w H' h' a o := by
  induction o with
  | lst xs => obtain ⟨z, its, n, r, e⟩ := x; exact ⟨z, its, n, r, k _ _ (.inl rfl) e⟩
  | tup xs => obtain ⟨z, its, r, ob, e, c⟩ := x; exact ⟨z, its, r, ob, k _ _ (.inl rfl) e, c⟩
  | dK kvs => obtain ⟨z, y, vs, r, ob, es, ep, e, c⟩ := x; exact ⟨z, y, vs, r, ob, es, ep, k _ _ (.inl rfl) e, c⟩
  | dT kvs =>
    obtain ⟨z, y, xs, r, ob, es, ep, e, c⟩ := x
    exact ⟨z, y, xs, Paired.mapP r fun p q z => ⟨z.1, ht _ _ z.2.1, z.2.2⟩, ob, es, ep, k _ _ (.inl rfl) e, c⟩
  | set S n => obtain ⟨ob, es, ep, t, e, c⟩ := x; exact ⟨ob, es, ep, t, k _ _ (.inl rfl) e, c⟩
  | ins C dx fs =>
    obtain ⟨d, z, ne, e, mA, ⟨od, es, ep, e2, c⟩, r⟩ := x
    exact ⟨ho _ d, z, ne, k _ _ (.inl rfl) e, mA, ⟨od, es, ep, k _ _ (.inr d) e2, c⟩, r⟩
  | own y => obtain ⟨ob, e⟩ := x; exact ⟨ob, k _ _ (.inl rfl) e⟩
  | xd fs => obtain ⟨mA, ⟨od, es, ep, e, c⟩, r⟩ := x; exact ⟨mA, ⟨od, es, ep, k _ _ (.inl rfl) e, c⟩, r⟩
  | rng lo hi => obtain ⟨t, u, v, e⟩ := x; exact ⟨t, u, v, k _ _ (.inl rfl) e⟩
  | frz ob u ih => obtain ⟨e, q⟩ := x; exact ⟨k _ _ (.inl rfl) e, ih q⟩
  | tbl ps =>
    have e : h.get? a = some { cls := .none, data := .fields ps } := x
    show h'.get? a = some { cls := .none, data := .fields ps }
    exact k a _ (.inl rfl) e
  | met f y =>
    have e : h.get? a = some (PySem.W.methodObj (.ref f) (.ref y)) := x
    show h'.get? a = some (PySem.W.methodObj (.ref f) (.ref y))
    exact k a _ (.inl rfl) e
  | ext φ => obtain ⟨p, ⟨o, e⟩, st⟩ := x; exact ⟨st _ _ p fun o q => k _ _ (.inl rfl) q, ⟨o, k _ _ (.inl rfl) e⟩, st⟩
theorem HOk.lt (x : HOk P w H h) (e : H a = some o) : a < h.objs.size := (x a o e).lt
theorem HOk.fresh (x : HOk P w H h) (e : h.objs.size ≤ a) : H a = none := by
  cases q : H a with
  | none => rfl
  | some u => exact absurd (Nat.lt_of_lt_of_le (x.lt q) e) (Nat.lt_irrefl _)
theorem HOk.kept (x : HOk P w H h) (k : ∀ b u, h.get? b = some u → h'.get? b = some u) : HOk P w H h' := fun a o e =>
  (x a o e).stay (fun b u _ q => k b u q) (fun _ q => q) fun _ _ q => q
theorem HOk.laid (x : HOk P w H h) (k : ∀ b u, h.get? b = some u → h'.get? b = some u) (hp : h.objs.size ≤ a) (new : ObjOk P w (upd H a o) h' a o) : HOk P w (upd H a o) h' := fun b u e => by
  have hn := x.fresh hp
  by_cases hb : b = a
  · subst hb; rw [upd_same] at e; cases e; exact new
  · rw [upd_ne hb] at e
    exact (x b u e).stay (fun c v _ q => k c v q) (fun c q => by rw [upd_ne (ne_of_none q hn)]; exact q) fun c xs q => by rw [upd_ne (ne_of_none q hn)]; exact q
end
def Rd (H : Hp) (a : Addr) (u : HO) : Prop := H a = some u ∨ ∃ o, H a = some (.frz o u)
theorem Rd.of {H : Hp} {a : Addr} {u : HO} (h : H a = some u) : Rd H a u := .inl h
theorem Rd.ok {P : Program} {w : World} {H : Hp} {h : Heap} {a : Addr} {u : HO} (r : Rd H a u) (x : HOk P w H h) : ObjOk P w H h a u := by
  rcases r with r | ⟨o, r⟩
  · exact x a u r
  · obtain ⟨_, q⟩ := x a _ r
    exact q
def Mut : Option HO → Prop
  | some (.lst _) => True
  | some (.dK _) => True
  | some (.dT _) => True
  | some (.set _ _) => True
  | some (.ins _ _ _) => True
  | some (.ext _) => True
  | _ => False
section
variable {P : Program} {w : World} {H : Hp} {h h' : Heap} {x e : Addr} {o' : HO}
theorem HOk.write (ok : HOk P w H h) (mu : Mut (H x)) (he : e = x ∨ H e = some (.own x)) (k : ∀ b u, b ≠ e → h.get? b = some u → h'.get? b = some u) (heo : ∃ u, h'.get? e = some u)
    (new : ObjOk P w (upd H x o') h' x o') : HOk P w (upd H x o') h' := fun b u q => by
  have nown : ∀ c y, H c = some (.own y) → c ≠ x := fun c y r z => by subst z; rw [r] at mu; exact mu
  have ntup : ∀ c xs, H c = some (.tup xs) → c ≠ x := fun c xs r z => by subst z; rw [r] at mu; exact mu
  by_cases hb : b = x
  · subst hb; rw [upd_same] at q; cases q; exact new
  · rw [upd_ne hb] at q
    by_cases hbe : b = e
    · have q' : H b = some (.own x) := by
        rcases he with z | z
        · exact absurd (hbe.trans z) hb
        · rw [hbe]; exact z
      rw [q] at q'; cases q'
      obtain ⟨v, hv⟩ := heo
      exact ⟨v, by rw [hbe]; exact hv⟩
    · refine (ok b u q).stay (fun c v hc r => k c v ?_ r) (fun c r => by rw [upd_ne (nown c b r)]; exact r) fun c xs r => by rw [upd_ne (ntup c xs r)]; exact r
      rcases hc with rfl | hc
      · exact hbe
      · rintro rfl
        rcases he with z | z
        · exact nown c b hc z
        · rw [hc] at z; cases z; exact hb rfl
end
structure Un (fs ex : List Addr) (H H' : Hp) (h h' : Heap) : Prop where
  keep : ∀ b o, h.get? b = some o → H b = none → b ∉ fs → b ∉ ex → h'.get? b = some o
  slot : ∀ b o, h.get? b = some o → H b = none → b ∈ fs → b ∉ ex → ∃ sl, h'.get? b = some { o with slots := sl }
  free : ∀ b o, h.get? b = some o → H b = none → b ∉ ex → H' b = none
  there : ∀ b o, h.get? b = some o → b ∉ ex → ∃ o', h'.get? b = some o'
  tups : ∀ b xs, H b = some (.tup xs) → H' b = some (.tup xs)
  frzs : ∀ b o u, H b = some (.frz o u) → H' b = some (.frz o u)
  tbls : ∀ b ps, H b = some (.tbl ps) → ∃ more, H' b = some (.tbl (ps ++ more))
section
variable {fs fs' ex ex' : List Addr} {H H1 H2 : Hp} {h h1 h2 h' : Heap} {a x e : Addr} {o : HO}
theorem Un.any (u : Un fs ex H H1 h h1) {b : Addr} {ob : Obj} (q : h.get? b = some ob) (n : H b = none) (hx : b ∉ ex) : ∃ sl, h1.get? b = some { ob with slots := sl } := by
  by_cases hb : b ∈ fs
  · exact u.slot b ob q n hb hx
  · exact ⟨ob.slots, u.keep b ob q n hb hx⟩
theorem Un.trans (a : Un fs ex H H1 h h1) (b : Un fs ex H1 H2 h1 h2) : Un fs ex H H2 h h2 where
  keep := fun c ob q n hc hx => b.keep c ob (a.keep c ob q n hc hx) (a.free c ob q n hx) hc hx
  slot := fun c ob q n hc hx => by
    obtain ⟨sl, e1⟩ := a.slot c ob q n hc hx
    obtain ⟨sl', e2⟩ := b.slot c _ e1 (a.free c ob q n hx) hc hx
    exact ⟨sl', e2⟩
  free := fun c ob q n hx => by
    obtain ⟨o', e1⟩ := a.there c ob q hx
    exact b.free c o' e1 (a.free c ob q n hx) hx
  there := fun c ob q hx => by
    obtain ⟨o', e1⟩ := a.there c ob q hx
    exact b.there c o' e1 hx
  tups := fun c xs q => b.tups c xs (a.tups c xs q)
  frzs := fun c ob xs q => b.frzs c ob xs (a.frzs c ob xs q)
  tbls := fun c ps q => by
    obtain ⟨m1, e1⟩ := a.tbls c ps q
    obtain ⟨m2, e2⟩ := b.tbls c _ e1
    exact ⟨m1 ++ m2, by rw [e2, Array.append_assoc]⟩
theorem Un.kept (k : ∀ b u, h.get? b = some u → h'.get? b = some u) : Un fs ex H H h h' :=
  ⟨fun b ob q _ _ _ => k b ob q, fun b ob q _ _ _ => ⟨ob.slots, k b ob q⟩, fun _ _ _ n _ => n, fun b ob q _ => ⟨ob, k b ob q⟩, fun _ _ q => q, fun _ _ _ q => q, fun _ ps q => ⟨#[], by rw [q]; simp⟩⟩
theorem Un.refl : Un fs ex H H h h := Un.kept fun _ _ q => q
theorem Un.laid (k : ∀ b u, h.get? b = some u → h'.get? b = some u) (hp : h.objs.size ≤ a) (hn : H a = none) : Un fs ex H (upd H a o) h h' where
  keep := fun b u q _ _ _ => k b u q
  slot := fun b u q _ _ _ => ⟨u.slots, k b u q⟩
  free := fun b u q n _ => by rw [upd_ne (Nat.ne_of_lt (Nat.lt_of_lt_of_le (Heap.lt_size q) hp))]; exact n
  there := fun b u q _ => ⟨u, k b u q⟩
  tups := fun b xs q => by rw [upd_ne (ne_of_none q hn)]; exact q
  frzs := fun b u xs q => by rw [upd_ne (ne_of_none q hn)]; exact q
  tbls := fun b ps q => ⟨#[], by rw [upd_ne (ne_of_none q hn), q]; simp⟩
theorem Un.write (mu : Mut (H x)) (he : e = x ∨ H e = some (.own x)) (k : ∀ b u, b ≠ e → h.get? b = some u → h'.get? b = some u) (heo : ∃ u, h'.get? e = some u) : Un fs ex H (upd H x o) h h' := by
  have hx : ∀ b, H b = none → b ≠ x := fun b n z => by subst z; rw [n] at mu; exact mu
  have hb : ∀ b, H b = none → b ≠ e := fun b n z => by
    subst z
    rcases he with r | r
    · exact hx b n r
    · rw [n] at r; cases r
  have hm : ∀ b u, H b = some u → ¬ Mut (some u) → b ≠ x := fun b u q nm z => by subst z; rw [q] at mu; exact nm mu
  refine ⟨fun b u q n _ _ => k b u (hb b n) q, fun b u q n _ _ => ⟨u.slots, k b u (hb b n) q⟩, fun b u q n _ => by rw [upd_ne (hx b n)]; exact n, fun b u q _ => ?_,
    fun b xs q => by rw [upd_ne (hm b _ q fun z => z)]; exact q, fun b u xs q => by rw [upd_ne (hm b _ q fun z => z)]; exact q, fun b ps q => ⟨#[], by rw [upd_ne (hm b _ q fun z => z), q]; simp⟩⟩
  by_cases hbe : b = e
  · subst hbe; exact heo
  · exact ⟨u, k b u hbe q⟩
theorem Un.mono (u : Un fs ex H H1 h h1) (hs : ∀ b ∈ fs, b ∈ fs') (hx : ∀ b ∈ ex, b ∈ ex') : Un fs' ex' H H1 h h1 :=
  ⟨fun b ob q n hb he => u.keep b ob q n (fun z => hb (hs b z)) fun z => he (hx b z), fun _ _ q n _ he => u.any q n fun z => he (hx _ z), fun b ob q n he => u.free b ob q n fun z => he (hx b z), fun b ob q he => u.there b ob q fun z => he (hx b z), u.tups, u.frzs, u.tbls⟩
end
def trk (h : Heap) (H : Hp) : List Addr := (List.range h.objs.size).filter fun a => (H a).isSome
def hidT (h : Heap) (H : Hp) : Heap := PySem.W.hideAll h (trk h H)
theorem hidT_size (h : Heap) (H : Hp) : (hidT h H).objs.size = h.objs.size := PySem.W.hideAll_size _ _
theorem hidT_get {h : Heap} {H : Hp} {b : Addr} {o : Obj} (e : h.get? b = some o) (n : H b = none) : (hidT h H).get? b = some o :=
  PySem.W.hideAll_get _ e fun hm => by
    have q : (H b).isSome = true := (List.mem_filter.mp hm).2
    rw [n] at q; simp at q
theorem of_hidT {h : Heap} {H : Hp} {b : Addr} {o : Obj} (e : (hidT h H).get? b = some o) : h.get? b = some o ∧ H b = none := by
  have e' : h.get? b = some o := PySem.W.of_hideAll (trk h H) e
  refine ⟨e', ?_⟩
  cases q : H b with
  | none => rfl
  | some x =>
    have hm : b ∈ trk h H := List.mem_filter.mpr ⟨List.mem_range.mpr (Heap.lt_size e'), by simp [q]⟩
    have z : (hidT h H).get? b = none := PySem.W.hideAll_none (trk h H) hm
    rw [z] at e; cases e
def allNews (g h : Heap) (L : Addr) : List (Addr × Obj) := (List.range h.objs.size).filterMap fun a => if a = L ∨ (g.get? a).isSome = true then none else (h.get? a).map fun o => (a, o)
def rest (g h : Heap) (L d : Addr) : List (Addr × Obj) := (allNews g h L).filter fun p => decide (p.1 ≠ d)
end L2
namespace L2
open PySem PySem.Spec PyProof.Rows
structure Mod (K : PySem.W.Frag) (mg : Str → Option Value) (base : Heap) : Prop where
  kin : K.In base
  glob : base.Ns mainGlobals mg
  blt : ∃ mb, base.Ns builtinsNs mb ∧ ∀ x : Str, x ≠ "__name__" → mb x = bootBuiltins x
  nolimit : base.NoLimit
structure Cx where
  prog : Program
  w : World
  K : PySem.W.Frag
  mg : Str → Option Value
  base : Heap
  A : Around
  N : List Str
  s₀ : Shared
  H₀ : Hp
  env : Env
  outer : List Env
  stack : List Env
  ex : List Addr
  fn : Str → Bool
  calm : Bool
  pn : List (Addr × Obj)
  xe : Value → Shared → Prop
def frs (l : List Env) : List Addr := l.filterMap (·.frame)
abbrev Cx.fs (X : Cx) : List Addr := frs X.outer
def Vis (sc : Scope) (x : Str) : Prop := sc.names.lookup x = some .local ∨ sc.names.lookup x = some .cell ∨ sc.names.lookup x = some .free
def Loc (sc : Scope) (x : Str) : Prop := sc.names.lookup x = some .local ∨ sc.names.lookup x = some .cell
def Look (env : Env) (h : Heap) (m : Str → Option Value) (x : Str) (u : Value) : Prop :=
  (env.kindOf x = some .local ∧ m x = some u) ∨ ((env.kindOf x = some .cell ∨ env.kindOf x = some .free) ∧ ∃ c, env.cells.lookup x = some c ∧ h.IsCell c (some u))
structure Cx.Ok (X : Cx) : Prop where
  mod : Mod X.K X.mg X.base
  kind : X.env.scope.kind = .function
  glob : X.env.globals = mainGlobals
  blt : X.env.builtins = builtinsNs
  above : X.s₀.heap.objs.size ≤ X.env.locals
  inj : ∀ x y c, X.env.cells.lookup x = some c → X.env.cells.lookup y = some c → x = y
  has : ∀ x, (X.env.kindOf x = some .cell ∨ X.env.kindOf x = some .free) → ∃ c, X.env.cells.lookup x = some c
  cab : ∀ x c, X.fn x = true → X.env.cells.lookup x = some c → X.s₀.heap.objs.size ≤ c
  hd : X.calm = true → X.A.handled = none
  frames : X.A.frames = some X.stack
  stk : X.stack = X.outer ∨ (X.stack = X.env :: X.outer ∧ X.env.frame = some X.env.locals)
  exf : ∀ b ∈ X.ex, b ≠ X.env.locals ∧ ∀ x c, X.env.cells.lookup x = some c → c ≠ b
  bs : ∀ b o, X.base.get? b = some o → X.s₀.heap.get? b = some o ∧ X.H₀ b = none
  bsz : X.base.objs.size ≤ X.s₀.heap.objs.size
  noex : ∀ b o, X.base.get? b = some o → b ∉ X.ex
  exfs : ∀ b ∈ X.ex, b ∉ X.fs
  funs : X.s₀.heap.FunFrames X.base X.outer
  frf : ∀ b ∈ X.fs, X.H₀ b = none
structure Inv (X : Cx) (pins : List (Addr × Obj)) (σ : List (Option V)) (H : Hp) (s : Shared) : Prop where
  ok : X.Ok
  os : s.os = X.s₀.os
  bare : AllBare s.gens
  base : Un X.fs X.ex X.H₀ H X.s₀.heap s.heap
  loc : ∃ m, s.heap.Ns X.env.locals m ∧ ∀ (i : Nat) (x : Str) (v : V), X.N[i]? = some x → σ[i]? = some (some v) → Vis X.env.scope x → ∃ u, RelV v u ∧ Look X.env s.heap m x u
  cell : ∀ x c, X.env.cells.lookup x = some c → ∃ v, s.heap.IsCell c v
  free : H X.env.locals = none
  freeC : ∀ x c, X.env.cells.lookup x = some c → H c = none
  pin : ∀ p ∈ X.pn ++ pins, s.heap.get? p.1 = some p.2 ∧ H p.1 = none ∧ p.1 ≠ X.env.locals ∧ p.1 ∉ X.fs ∧ ∀ v, p.2.data ≠ .cell v
  hok : HOk X.prog X.w H s.heap
  len : σ.length = X.N.length
section
variable {X : Cx} {pins : List (Addr × Obj)} {σ : List (Option V)} {H H' : Hp} {s : Shared} {h' : Heap}
theorem Cx.Ok.nofr (ok : X.Ok) {b : Addr} {o : Obj} (e : X.base.get? b = some o) : b ∉ X.fs := fun hb => by
  have := (ok.funs.mem hb).1
  rw [e] at this; cases this
theorem Inv.bs (I : Inv X pins σ H s) : ∀ b o, X.base.get? b = some o → s.heap.get? b = some o ∧ H b = none := fun b o e =>
  ⟨I.base.keep b o (I.ok.bs b o e).1 (I.ok.bs b o e).2 (I.ok.nofr e) (I.ok.noex b o e), I.base.free b o (I.ok.bs b o e).1 (I.ok.bs b o e).2 (I.ok.noex b o e)⟩
theorem Inv.bk (I : Inv X pins σ H s) : ∀ b o, X.base.get? b = some o → s.heap.get? b = some o := fun b o e => (I.bs b o e).1
theorem Inv.mod (I : Inv X pins σ H s) : Mod X.K X.mg X.base := I.ok.mod
theorem Inv.kIn (I : Inv X pins σ H s) : X.K.In s.heap := I.ok.mod.kin.keeps I.bk
theorem Inv.nolimit (I : Inv X pins σ H s) : s.heap.NoLimit := I.ok.mod.nolimit.keeps I.bk
theorem Inv.fr (I : Inv X pins σ H s) : ∃ m, Fr X.base X.env.locals s.heap m :=
  let ⟨m, hn, _⟩ := I.loc
  ⟨m, hn, I.bk, Nat.le_trans I.ok.bsz I.ok.above⟩
theorem Inv.lt (I : Inv X pins σ H s) : X.env.locals < s.heap.objs.size := let ⟨_, hn, _⟩ := I.loc; hn.lt
theorem Inv.sz (I : Inv X pins σ H s) : X.s₀.heap.objs.size ≤ s.heap.objs.size := Nat.le_trans I.ok.above (Nat.le_of_lt I.lt)
theorem Inv.nofs (I : Inv X pins σ H s) {a : Addr} (h : s.heap.objs.size ≤ a) : a ∉ X.fs := fun hb => by
  obtain ⟨_, o, ho, _⟩ := I.ok.funs.mem hb
  exact absurd (Nat.lt_of_lt_of_le (Heap.lt_size ho) (Nat.le_trans I.sz h)) (Nat.lt_irrefl _)
theorem Inv.cne (I : Inv X pins σ H s) : ∀ x c, X.env.cells.lookup x = some c → c ≠ X.env.locals := fun x c e z => by
  obtain ⟨v, o, ho, hd⟩ := I.cell x c e
  obtain ⟨m, ⟨o', es, ep, ho', hd', _⟩, _⟩ := I.loc
  rw [z, ho'] at ho; cases ho; rw [hd'] at hd; cases hd
theorem Inv.funs (I : Inv X pins σ H s) : s.heap.FunFrames X.base X.outer := by
  have all : ∀ (l : List Env), (∀ b ∈ frs l, b ∈ X.fs) → X.s₀.heap.FunFrames X.base l → s.heap.FunFrames X.base l := by
    intro l
    induction l with
    | nil => intro _ _; trivial
    | cons env r ih =>
      intro hs hl
      obtain ⟨hk, ⟨L, o, hf, hn, ho, hd⟩, hr⟩ := hl
      have hL : L ∈ X.fs := hs L (by unfold frs; rw [List.filterMap_cons, hf]; exact List.mem_cons_self)
      obtain ⟨sl, e⟩ := I.base.slot L o ho (I.ok.frf L hL) hL fun z => I.ok.exfs L z hL
      exact ⟨hk, ⟨L, _, hf, hn, e, hd⟩, ih (fun b hb => hs b (by unfold frs; rw [List.filterMap_cons, hf]; exact List.mem_cons_of_mem _ hb)) hr⟩
  exact all X.outer (fun _ hb => hb) I.ok.funs
theorem Inv.stack (I : Inv X pins σ H s) : s.heap.FunFrames X.base X.stack := by
  rcases I.ok.stk with e | ⟨e, hf⟩
  · rw [e]; exact I.funs
  · rw [e]
    obtain ⟨m, hn, _⟩ := I.loc
    refine .cons (by rw [I.ok.kind]; decide) hf hn ?_ I.funs
    exact Heap.get?_none_of_le (Nat.le_trans I.ok.bsz I.ok.above)
theorem Inv.stkSub (I : Inv X pins σ H s) : ∀ b ∈ frs X.stack, b ∈ X.env.locals :: X.fs := fun b hb => by
  rcases I.ok.stk with e | ⟨e, hf⟩
  · rw [e] at hb; exact List.mem_cons_of_mem _ hb
  · rw [e] at hb
    unfold frs at hb
    rw [List.filterMap_cons, hf] at hb
    exact hb
theorem Inv.stkFree (I : Inv X pins σ H s) : ∀ b ∈ frs X.stack, H b = none := fun b hb => by
  rcases List.mem_cons.mp (I.stkSub b hb) with e | hb
  · rw [e]; exact I.free
  · obtain ⟨_, o, ho, _⟩ := I.ok.funs.mem hb
    exact I.base.free b o ho (I.ok.frf b hb) fun z => I.ok.exfs b z hb
theorem Inv.step {g' : Array GenState} {t' : Nat} {d' : Drawn} {ch : List Addr} (I : Inv X pins σ H s)
    (hch : ∀ b ∈ ch, (b ∈ X.ex ∨ X.s₀.heap.objs.size ≤ b) ∧ b ≠ X.env.locals ∧ (∀ x c, X.env.cells.lookup x = some c → c ≠ b) ∧ ∀ p ∈ X.pn ++ pins, p.1 ≠ b)
    (keep : ∀ b o, b ≠ X.env.locals → b ∉ X.fs → b ∉ ch → s.heap.get? b = some o → H b = none → h'.get? b = some o)
    (slot : ∀ b o, b ≠ X.env.locals → b ∈ X.fs → b ∉ ch → s.heap.get? b = some o → H b = none → ∃ sl, h'.get? b = some { o with slots := sl }) (free : ∀ b o, b ∉ ch → s.heap.get? b = some o → H b = none → H' b = none)
    (there : ∀ b o, b ∉ ch → s.heap.get? b = some o → ∃ o', h'.get? b = some o')
    (tups : ∀ b xs, H b = some (.tup xs) → H' b = some (.tup xs)) (frzs : ∀ b o u, H b = some (.frz o u) → H' b = some (.frz o u)) (tbls : ∀ b ps, H b = some (.tbl ps) → ∃ more, H' b = some (.tbl (ps ++ more)))
    (ns : ∀ m, s.heap.Ns X.env.locals m → h'.Ns X.env.locals m) (hok : HOk X.prog X.w H' h') (hg : AllBare g') :
    Inv X pins σ H' { s with heap := h', gens := g', drawn := d', toks := t' } := by
  have neL : ∀ b o, X.s₀.heap.get? b = some o → b ≠ X.env.locals := fun b o e => Nat.ne_of_lt (Nat.lt_of_lt_of_le (Heap.lt_size e) I.ok.above)
  have neC : ∀ b o, X.s₀.heap.get? b = some o → b ∉ X.ex → b ∉ ch := fun b o e hx hb => by
    rcases (hch b hb).1 with z | z
    · exact hx z
    · exact absurd (Nat.lt_of_lt_of_le (Heap.lt_size e) z) (Nat.lt_irrefl _)
  have cellK : ∀ x c, X.env.cells.lookup x = some c → ∀ v, s.heap.IsCell c v → h'.IsCell c v := fun x c e v ⟨o, ho, hd⟩ => by
    have nch : c ∉ ch := fun z => (hch c z).2.2.1 x c e rfl
    by_cases hc : c ∈ X.fs
    · obtain ⟨sl, q⟩ := slot c o (I.cne x c e) hc nch ho (I.freeC x c e)
      exact ⟨_, q, hd⟩
    · exact ⟨o, keep c o (I.cne x c e) hc nch ho (I.freeC x c e), hd⟩
  refine ⟨I.ok, I.os, hg, ⟨fun b o e n hb hx => ?_, fun b o e n hb hx => ?_, fun b o e n hx => ?_, fun b o e hx => ?_, fun b xs e => tups b xs (I.base.tups b xs e), fun b o xs e => frzs b o xs (I.base.frzs b o xs e), fun b ps e => ?_⟩, ?_, fun x c e => ?_, ?_, fun x c e => ?_, fun p hp => ?_, hok, I.len⟩
  · exact keep b o (neL b o e) hb (neC b o e hx) (I.base.keep b o e n hb hx) (I.base.free b o e n hx)
  · obtain ⟨sl, e1⟩ := I.base.slot b o e n hb hx
    obtain ⟨sl', e2⟩ := slot b _ (neL b o e) hb (neC b o e hx) e1 (I.base.free b o e n hx)
    exact ⟨sl', e2⟩
  · obtain ⟨o', e1⟩ := I.base.there b o e hx
    exact free b o' (neC b o e hx) e1 (I.base.free b o e n hx)
  · obtain ⟨o', e1⟩ := I.base.there b o e hx
    exact there b o' (neC b o e hx) e1
  · obtain ⟨m1, e1⟩ := I.base.tbls b ps e
    obtain ⟨m2, e2⟩ := tbls b _ e1
    exact ⟨m1 ++ m2, by rw [e2, Array.append_assoc]⟩
  · obtain ⟨m, hn, hl⟩ := I.loc
    refine ⟨m, ns m hn, fun i x v e1 e2 e3 => ?_⟩
    obtain ⟨u, r, l⟩ := hl i x v e1 e2 e3
    refine ⟨u, r, ?_⟩
    rcases l with l | ⟨k, c, e, z⟩
    · exact .inl l
    · exact .inr ⟨k, c, e, cellK x c e _ z⟩
  · obtain ⟨v, z⟩ := I.cell x c e
    exact ⟨v, cellK x c e v z⟩
  · obtain ⟨m, ⟨o, _, _, ho, _⟩, _⟩ := I.loc
    exact free _ o (fun z => (hch _ z).2.1 rfl) ho I.free
  · obtain ⟨v, o, ho, hd⟩ := I.cell x c e
    exact free c o (fun z => (hch c z).2.2.1 x c e rfl) ho (I.freeC x c e)
  · obtain ⟨e, n, ne, nf, d⟩ := I.pin p hp
    have nch : p.1 ∉ ch := fun z => (hch p.1 z).2.2.2 p hp rfl
    exact ⟨keep p.1 p.2 ne nf nch e n, free p.1 p.2 nch e n, ne, nf, d⟩
theorem Inv.un {t' : Nat} (I : Inv X pins σ H s) (u : Un X.fs [] H H' s.heap h') (hok : HOk X.prog X.w H' h') : Inv X pins σ H' { s with heap := h', toks := t' } := by
  obtain ⟨m, ⟨o, es, ep, ho, r⟩, _⟩ := id I.loc
  obtain ⟨sl, hL⟩ := u.any ho I.free (by simp)
  exact I.step (g' := s.gens) (d' := s.drawn) (ch := []) (fun _ z => nomatch z) (fun b o _ hb _ e n => u.keep b o e n hb (by simp)) (fun b o _ hb _ e n => u.slot b o e n hb (by simp)) (fun b o _ e n => u.free b o e n (by simp)) (fun b o _ e => u.there b o e (by simp)) u.tups u.frzs u.tbls (fun m' hm => by
    obtain ⟨o', es', ep', ho', r'⟩ := hm
    rw [ho] at ho'; cases ho'
    exact ⟨_, es', ep', hL, r'⟩) hok I.bare
theorem Inv.call {g' : Array GenState} {t' : Nat} {d' : Drawn} {ch : List Addr} (I : Inv X pins σ H s) (u : Un (frs X.stack) ch H H' s.heap h') (hok : HOk X.prog X.w H' h') (hg : AllBare g')
    (hch : ∀ b ∈ ch, (b ∈ X.ex ∨ X.s₀.heap.objs.size ≤ b) ∧ b ≠ X.env.locals ∧ (∀ x c, X.env.cells.lookup x = some c → c ≠ b) ∧ ∀ p ∈ X.pn ++ pins, p.1 ≠ b) :
    Inv X pins σ H' { s with heap := h', gens := g', drawn := d', toks := t' } := by
  obtain ⟨m, ⟨o, es, ep, ho, r⟩, _⟩ := id I.loc
  obtain ⟨sl, hL⟩ := u.any ho I.free fun z => (hch _ z).2.1 rfl
  exact I.step (ch := ch) hch (fun b o hL hb hc e n => u.keep b o e n (fun z => (List.mem_cons.mp (I.stkSub b z)).elim hL hb) hc) (fun b o _ _ hc e n => u.any e n hc) (fun b o hc e n => u.free b o e n hc) (fun b o hc e => u.there b o e hc) u.tups u.frzs u.tbls (fun m' hm => by
    obtain ⟨o', es', ep', ho', r'⟩ := hm
    rw [ho] at ho'; cases ho'
    exact ⟨_, es', ep', hL, r'⟩) hok hg
theorem Inv.turned {t' : Nat} {it : Addr} (I : Inv X pins σ H s) (k : ∀ b o, b ≠ it → s.heap.get? b = some o → h'.get? b = some o) (hn : H it = none) (hL : it ≠ X.env.locals)
    (h1 : it ∈ X.ex ∨ X.s₀.heap.objs.size ≤ it) (h2 : ∀ x c, X.env.cells.lookup x = some c → c ≠ it) (h3 : ∀ p ∈ X.pn ++ pins, p.1 ≠ it) : Inv X pins σ H { s with heap := h', toks := t' } := by
  have nit : ∀ b u, H b = some u → b ≠ it := fun b u e z => by rw [z, hn] at e; cases e
  refine I.step (g' := s.gens) (d' := s.drawn) (ch := [it]) (fun b hb => ?_) (fun b o _ _ hc e _ => k b o (fun z => hc (by simp [z])) e) (fun b o _ _ hc e _ => ⟨o.slots, k b o (fun z => hc (by simp [z])) e⟩) (fun _ _ _ _ n => n)
    (fun b o hc e => ⟨o, k b o (fun z => hc (by simp [z])) e⟩) (fun _ _ e => e) (fun _ _ _ e => e) (fun b ps e => ⟨#[], by rw [e]; simp⟩) (fun m hm => ?_) (fun b u e => ?_) I.bare
  · have e : b = it := by simpa using hb
    subst e
    exact ⟨h1, hL, h2, h3⟩
  · obtain ⟨o, es, ep, ho, r⟩ := hm
    exact ⟨o, es, ep, k _ o (Ne.symm hL) ho, r⟩
  · refine (I.hok b u e).stay (fun c v hc q => k c v ?_ q) (fun _ q => q) fun _ _ q => q
    rcases hc with z | z
    · rw [z]; exact nit b u e
    · exact nit c _ z
theorem Inv.tok (I : Inv X pins σ H s) (t : Nat) : Inv X pins σ H { s with toks := t } := I.un (h' := s.heap) (t' := t) Un.refl I.hok
theorem Inv.kept {t' : Nat} (I : Inv X pins σ H s) (k : ∀ b u, s.heap.get? b = some u → h'.get? b = some u) : Inv X pins σ H { s with heap := h', toks := t' } := I.un (Un.kept k) (I.hok.kept k)
theorem Inv.laid {a : Addr} {o : HO} {t' : Nat} (I : Inv X pins σ H s) (k : ∀ b u, s.heap.get? b = some u → h'.get? b = some u) (hp : s.heap.objs.size ≤ a) (new : ObjOk X.prog X.w (upd H a o) h' a o) :
    Inv X pins σ (upd H a o) { s with heap := h', toks := t' } := I.un (Un.laid k hp (I.hok.fresh hp)) (I.hok.laid k hp new)
theorem Inv.write {x e : Addr} {o : HO} {t' : Nat} (I : Inv X pins σ H s) (mu : Mut (H x)) (he : e = x ∨ H e = some (.own x)) (k : ∀ b u, b ≠ e → s.heap.get? b = some u → h'.get? b = some u) (heo : ∃ u, h'.get? e = some u)
    (new : ObjOk X.prog X.w (upd H x o) h' x o) : Inv X pins σ (upd H x o) { s with heap := h', toks := t' } := I.un (Un.write mu he k heo) (I.hok.write mu he k heo new)
theorem Inv.pins_of {pins' : List (Addr × Obj)} (I : Inv X pins σ H s) (h : ∀ p ∈ pins', s.heap.get? p.1 = some p.2 ∧ H p.1 = none ∧ p.1 ≠ X.env.locals ∧ p.1 ∉ X.fs ∧ ∀ v, p.2.data ≠ .cell v) : Inv X pins' σ H s :=
  ⟨I.ok, I.os, I.bare, I.base, I.loc, I.cell, I.free, I.freeC, fun p hp => (List.mem_append.mp hp).elim (fun z => I.pin p (List.mem_append_left _ z)) (h p), I.hok, I.len⟩
theorem nodup_ix {N : List Str} (hN : N.Nodup) {i j : Nat} {x : Str} (a : N[i]? = some x) (b : N[j]? = some x) : i = j := by
  obtain ⟨h1, e1⟩ := List.getElem?_eq_some_iff.mp a
  obtain ⟨h2, e2⟩ := List.getElem?_eq_some_iff.mp b
  exact (List.getElem_inj hN).mp (e1.trans e2.symm)
theorem store_ok2 {M : Model} {A : Around} {E : Value → Shared → Prop} {i : Nat} {x : Str} {v : V} {u : Value} {Q : Unit → Shared → Prop} (I : Inv X pins σ H s) (hN : X.N.Nodup) (hi : X.N[i]? = some x) (hx : Loc X.env.scope x) (r : RelV v u)
    (h : ∀ s', Inv X pins (σ.set i (some v)) H s' → (∃ a, Heap.SameBut a s.heap s'.heap ∧ (a = X.env.locals ∨ X.env.cells.lookup x = some a)) → Q () s') (hf : X.fn x = true ∨ X.env.scope.names.lookup x = some .local := by first | exact .inl rfl | exact .inr rfl | assumption) : wpAny M A (storeName X.env x u) Q E s := by
  obtain ⟨m, hn, hl⟩ := id I.loc
  have hcls : (X.env.scope.kind == .class || (X.env.scope.kind == .module && X.env.locals != X.env.globals)) = false := by rw [I.ok.kind]; rfl
  have hiσ : i < σ.length := by rw [I.len]; exact (List.getElem?_eq_some_iff.mp hi).1
  have cne := I.cne
  have tracked : ∀ {a : Addr} {h' : Heap}, (∃ o, s.heap.get? a = some o ∧ H a = none) → Heap.SameBut a s.heap h' → HOk X.prog X.w H h' := fun {a h'} ha hs b ob e => by
    obtain ⟨_, _, hfree⟩ := ha
    refine (I.hok b ob e).stay (fun c w' hc q => (hs.2 c ?_).trans q) (fun _ q => q) fun _ _ q => q
    rintro rfl
    rcases hc with rfl | hc
    · rw [hfree] at e; cases e
    · rw [hfree] at hc; cases hc
  rcases hx with hk | hk
  · refine wpAny_storeName_local hk hn (fun h' hn' hs => ?_) hcls
    obtain ⟨oL, _, _, hoL, _⟩ := id hn
    refine h _ ⟨I.ok, I.os, I.bare, ⟨fun b o e n hb hx => ?_, fun b o e n hb hx => ?_, I.base.free, fun b o e hx => ?_, I.base.tups, I.base.frzs, I.base.tbls⟩, ⟨_, hn', fun j y v' e1 e2 e3 => ?_⟩, fun y c e => ?_, I.free, I.freeC, fun p hp => ?_, tracked ⟨oL, hoL, I.free⟩ hs, by simpa using I.len⟩ ⟨_, hs, .inl rfl⟩
    · exact (hs.2 b (Nat.ne_of_lt (Nat.lt_of_lt_of_le (Heap.lt_size e) I.ok.above))).trans (I.base.keep b o e n hb hx)
    · obtain ⟨sl, e1⟩ := I.base.slot b o e n hb hx
      exact ⟨sl, (hs.2 b (Nat.ne_of_lt (Nat.lt_of_lt_of_le (Heap.lt_size e) I.ok.above))).trans e1⟩
    · obtain ⟨o', e1⟩ := I.base.there b o e hx
      exact ⟨o', (hs.2 b (Nat.ne_of_lt (Nat.lt_of_lt_of_le (Heap.lt_size e) I.ok.above))).trans e1⟩
    · by_cases hj : j = i
      · subst hj
        rw [hi] at e1; cases e1
        rw [List.getElem?_set_self hiσ] at e2
        cases e2
        exact ⟨u, r, .inl ⟨hk, by simp⟩⟩
      · rw [List.getElem?_set_ne (Ne.symm hj)] at e2
        obtain ⟨u', r', q⟩ := hl j y v' e1 e2 e3
        refine ⟨u', r', ?_⟩
        rcases q with ⟨k, e⟩ | ⟨k, c, e, z⟩
        · refine .inl ⟨k, ?_⟩
          have : y ≠ x := fun e => hj (nodup_ix hN e1 (e ▸ hi))
          simp [this, e]
        · exact .inr ⟨k, c, e, z.sameBut hs (cne y c e)⟩
    · obtain ⟨w', z⟩ := I.cell y c e
      exact ⟨w', z.sameBut hs (cne y c e)⟩
    · obtain ⟨e, n, ne, nf, d⟩ := I.pin p hp
      exact ⟨(hs.2 p.1 ne).trans e, n, ne, nf, d⟩
  · have hfn : X.fn x = true := by
      rcases hf with z | z
      · exact z
      · rw [z] at hk; cases hk
    obtain ⟨c, hc⟩ := I.ok.has x (.inl hk)
    obtain ⟨w', z⟩ := I.cell x c hc
    refine wpAny_storeName_cell I.ok.kind hk hc z (fun h' hc' hs => ?_)
    obtain ⟨oc, hoc, hocd⟩ := id z
    refine h { s with heap := h' } ⟨I.ok, I.os, I.bare, ⟨fun b o e n hb hx => ?_, fun b o e n hb hx => ?_, I.base.free, fun b o e hx => ?_, I.base.tups, I.base.frzs, I.base.tbls⟩, ⟨m, hn.sameBut hs (Ne.symm (cne x c hc)), fun j y v' e1 e2 e3 => ?_⟩, fun y c' e => ?_, I.free, I.freeC, fun p hp => ?_, tracked ⟨oc, hoc, I.freeC x c hc⟩ hs, by simpa using I.len⟩ ⟨c, hs, .inr hc⟩
    · exact (hs.2 b (Nat.ne_of_lt (Nat.lt_of_lt_of_le (Heap.lt_size e) (I.ok.cab x c hfn hc)))).trans (I.base.keep b o e n hb hx)
    · obtain ⟨sl, e1⟩ := I.base.slot b o e n hb hx
      exact ⟨sl, (hs.2 b (Nat.ne_of_lt (Nat.lt_of_lt_of_le (Heap.lt_size e) (I.ok.cab x c hfn hc)))).trans e1⟩
    · obtain ⟨o', e1⟩ := I.base.there b o e hx
      exact ⟨o', (hs.2 b (Nat.ne_of_lt (Nat.lt_of_lt_of_le (Heap.lt_size e) (I.ok.cab x c hfn hc)))).trans e1⟩
    · by_cases hj : j = i
      · subst hj
        rw [hi] at e1; cases e1
        rw [List.getElem?_set_self hiσ] at e2
        cases e2
        exact ⟨u, r, .inr ⟨.inl hk, c, hc, hc'⟩⟩
      · rw [List.getElem?_set_ne (Ne.symm hj)] at e2
        obtain ⟨u', r', q⟩ := hl j y v' e1 e2 e3
        refine ⟨u', r', ?_⟩
        rcases q with q | ⟨k, c', e, z'⟩
        · exact .inl q
        · refine .inr ⟨k, c', e, z'.sameBut hs ?_⟩
          rintro rfl
          exact hj (nodup_ix hN e1 (I.ok.inj _ _ _ e hc ▸ hi))
    · by_cases hcc : c' = c
      · subst hcc; exact ⟨_, hc'⟩
      · obtain ⟨w2, z2⟩ := I.cell y c' e
        exact ⟨w2, z2.sameBut hs hcc⟩
    · obtain ⟨e, n, ne, nf, d⟩ := I.pin p hp
      refine ⟨(hs.2 p.1 ?_).trans e, n, ne, nf, d⟩
      intro q
      rw [q, hoc] at e
      have q' : oc = p.2 := Option.some.inj e
      exact d w' (by rw [← q']; exact hocd)
theorem store_ok {M : Model} {A : Around} {E : Value → Shared → Prop} {i : Nat} {x : Str} {v : V} {u : Value} {Q : Unit → Shared → Prop} (I : Inv X pins σ H s) (hN : X.N.Nodup) (hi : X.N[i]? = some x) (hx : Loc X.env.scope x) (r : RelV v u)
    (h : ∀ s', Inv X pins (σ.set i (some v)) H s' → Q () s') (hf : X.fn x = true ∨ X.env.scope.names.lookup x = some .local := by first | exact .inl rfl | exact .inr rfl | assumption) : wpAny M A (storeName X.env x u) Q E s :=
  store_ok2 I hN hi hx r (fun s' I' _ => h s' I') hf
theorem Inv.call' {s' : Shared} {ch : List Addr} (I : Inv X pins σ H s) (ho : s'.os = s.os) (u : Un (frs X.stack) ch H H' s.heap s'.heap) (hok : HOk X.prog X.w H' s'.heap) (hg : AllBare s'.gens)
    (hch : ∀ b ∈ ch, (b ∈ X.ex ∨ X.s₀.heap.objs.size ≤ b) ∧ b ≠ X.env.locals ∧ (∀ x c, X.env.cells.lookup x = some c → c ≠ b) ∧ ∀ p ∈ X.pn ++ pins, p.1 ≠ b) : Inv X pins σ H' s' := by
  obtain ⟨h', g', d', t', o'⟩ := s'
  have e : o' = s.os := ho
  subst e
  exact I.call (g' := g') (t' := t') (d' := d') u hok hg hch
end
abbrev XK := Value → Option Addr → Hp → Prop
abbrev St := List (Option V)
abbrev VK := V → Hp → Prop
abbrev TE := St → Hp → VK → Prop
abbrev TT := St → Hp → (Bool → Hp → Prop) → Prop
abbrev TA := St → Hp → (List V → Hp → Prop) → Prop
structure Ends where
  nx : St → Hp → Prop
  rt : VK
  bk : St → Hp → Prop := fun _ _ => False
  ct : St → Hp → Prop := fun _ _ => False
abbrev TS := Ends → St → Hp → Prop
def EP (X : Cx) (pins : List (Addr × Obj)) (σ : St) (Q : VK) (u : Value) (s' : Shared) : Prop := ∃ v H', Inv X pins σ H' s' ∧ RelV v u ∧ Q v H'
def TP (X : Cx) (pins : List (Addr × Obj)) (σ : St) (Q : Bool → Hp → Prop) (b : Bool) (s' : Shared) : Prop := ∃ H', Inv X pins σ H' s' ∧ Q b H'
def AP (X : Cx) (pins : List (Addr × Obj)) (σ : St) (Q : List V → Hp → Prop) (us : List Value) (s' : Shared) : Prop := ∃ vs H', Inv X pins σ H' s' ∧ Vals vs us ∧ Q vs H'
def SP (X : Cx) (pins : List (Addr × Obj)) (D : Ends) (f : Flow) (s' : Shared) : Prop :=
  match f with
  | .next => ∃ σ' H', Inv X pins σ' H' s' ∧ D.nx σ' H'
  | .brk => ∃ σ' H', Inv X pins σ' H' s' ∧ D.bk σ' H'
  | .cont => ∃ σ' H', Inv X pins σ' H' s' ∧ D.ct σ' H'
  | .ret u => ∃ v σ' H', Inv X pins σ' H' s' ∧ RelV v u ∧ D.rt v H'
def PE (X : Cx) (e : Expr) (t : TE) : Prop :=
  ∀ (pins : List (Addr × Obj)) (s : Shared) (σ : St) (H : Hp) (Q : VK), Inv X pins σ H s → t σ H Q → wpAny (model X.prog X.w) X.A (eval e X.env) (EP X pins σ Q) X.xe s
def PT (X : Cx) (e : Expr) (t : TT) : Prop :=
  ∀ (pins : List (Addr × Obj)) (s : Shared) (σ : St) (H : Hp) (Q : Bool → Hp → Prop), Inv X pins σ H s → t σ H Q → wpAny (model X.prog X.w) X.A (isTrue e X.env (eval e X.env)) (TP X pins σ Q) X.xe s
def PW (X : Cx) (e : Expr) (t : TT) : Prop :=
  ∀ (whole : Sem Value) (pins : List (Addr × Obj)) (s : Shared) (σ : St) (H : Hp) (Q : Bool → Hp → Prop), Inv X pins σ H s → t σ H Q → wpAny (model X.prog X.w) X.A (isTrue e X.env whole) (TP X pins σ Q) X.xe s
theorem PW.pt {X : Cx} {e : Expr} {t : TT} (h : PW X e t) : PT X e t := h _
def PA (X : Cx) (es : List Expr) (t : TA) : Prop :=
  ∀ (pos : Pos) (pins : List (Addr × Obj)) (s : Shared) (σ : St) (H : Hp) (Q : List V → Hp → Prop), Inv X pins σ H s → t σ H Q → wpAny (model X.prog X.w) X.A (spliced (backTo pos (starEach es X.env))) (AP X pins σ Q) X.xe s
def PS (X : Cx) (st : Stmt) (t : TS) : Prop :=
  ∀ (pins : List (Addr × Obj)) (s : Shared) (σ : St) (H : Hp) (D : Ends), Inv X pins σ H s → t D σ H → wpAny (model X.prog X.w) X.A (exec st X.env) (SP X pins D) X.xe s
def PSs (X : Cx) (st : List Stmt) (t : TS) : Prop :=
  ∀ (pins : List (Addr × Obj)) (s : Shared) (σ : St) (H : Hp) (D : Ends), Inv X pins σ H s → t D σ H → wpAny (model X.prog X.w) X.A (execs st X.env) (SP X pins D) X.xe s
theorem thn {α : Type} {t : Sem α} {Q Q' : α → Shared → Prop} {M : Model} {A : Around} {E : Value → Shared → Prop} {s : Shared} (h : wpAny M A t Q E s) (hQ : ∀ a s, Q a s → Q' a s) : wpAny M A t Q' E s := wpAny_mono h hQ fun _ _ x => x
end L2
namespace L2
open PySem PySem.Spec PyProof.Rows
section
variable {X : Cx}
def tVar (i : Nat) : TE := fun σ H Q => ∃ v, σ[i]? = some (some v) ∧ Q v H
def tC (v : V) : TE := fun _ H Q => Q v H
theorem pe_var {i : Nat} {x : Str} {pos : Pos} (hN : X.N[i]? = some x) (hv : Vis X.env.scope x) (hd : (x == ("__debug__" : Str)) = false := by decide) (hcd : (x == ("__classdict__" : Str)) = false := by decide) : PE X (.Name x pos) (tVar i) := by
  intro pins s σ H Q I h
  obtain ⟨v, e, h⟩ := h
  obtain ⟨m, hn, hl⟩ := I.loc
  obtain ⟨u, r, l⟩ := hl i x v hN e hv
  have fin : EP X pins σ Q u s := ⟨v, H, I, r, h⟩
  rcases l with ⟨hk, hm⟩ | ⟨hk, c, hc, hcell⟩
  · exact wpAny_Name (wpAny_loadName_local I.ok.kind hk hn hm fin) hd
  · rcases hk with hk | hk
    · exact wpAny_Name (wpAny_loadName_cell I.ok.kind hk hc hcell fin) hd
    · exact wpAny_Name (wpAny_loadName_free I.ok.kind hk hc hcell fin hcd) hd
theorem pe_int {i j pos} : PE X (.Constant (.int i) j pos) (tC (.int i)) := fun _ _ _ H _ I h => wpAny_Constant_int ⟨.int i, H, I.tok _, ⟨_, rfl⟩, h⟩
theorem pe_bl {b j pos} : PE X (.Constant (.bool b) j pos) (tC (.bl b)) := fun _ _ _ H _ I h => Constant_bool ⟨.bl b, H, I, rfl, h⟩
def Gl (X : Cx) (x : Str) : Prop := X.env.kindOf x = some .globalImplicit
theorem ld_glob {E : Value → Shared → Prop} {pins : List (Addr × Obj)} {s : Shared} {σ : St} {H : Hp} {x : Str} {u : Value} {pos : Pos} {Q : Value → Shared → Prop} (I : Inv X pins σ H s) (hg : Gl X x) (hm : X.mg x = some u) (h : Q u s)
    (hd : (x == ("__debug__" : Str)) = false := by decide) : wpAny (model X.prog X.w) X.A (eval (.Name x pos) X.env) Q E s :=
  Calls.Name_function_global I.ok.kind hg (Calls.loadGlobal_global (by rw [I.ok.glob]; exact I.mod.glob.keeps I.bk) hm h) hd
theorem ld_blt {E : Value → Shared → Prop} {pins : List (Addr × Obj)} {s : Shared} {σ : St} {H : Hp} {x : Str} {u : Value} {pos : Pos} {Q : Value → Shared → Prop} (I : Inv X pins σ H s) (hg : Gl X x) (hm : X.mg x = none) (hv : bootBuiltins x = some u) (h : Q u s)
    (hn : x ≠ "__name__" := by decide) (hd : (x == ("__debug__" : Str)) = false := by decide) : wpAny (model X.prog X.w) X.A (eval (.Name x pos) X.env) Q E s := by
  obtain ⟨mb, h1, h2⟩ := I.mod.blt
  exact Calls.Name_function_global I.ok.kind hg (Calls.loadGlobal_builtin (by rw [I.ok.glob]; exact I.mod.glob.keeps I.bk) hm (by rw [I.ok.blt]; exact h1.keeps I.bk) ((h2 x hn).trans hv) h) hd
theorem pe_bltn {x : Str} {v : V} {u : Value} {pos : Pos} (hg : Gl X x) (hm : X.mg x = none) (hv : bootBuiltins x = some u) (r : RelV v u) (hn : x ≠ "__name__" := by decide) (hd : (x == ("__debug__" : Str)) = false := by decide) : PE X (.Name x pos) (tC v) :=
  fun _ _ _ H _ I h => ld_blt I hg hm hv ⟨v, H, I, r, h⟩ hn hd
variable {a b : Expr} {ta tb : TE} {pos : Pos}
def tB (t : TE) : TT := fun σ H Q => t σ H fun x H1 => ∃ c, x = .bl c ∧ Q c H1
variable {tA tB' : TT} {rest : List Expr}
def tAnd (t u : TT) : TT := fun σ H Q => t σ H fun c H1 => if c = true then u σ H1 Q else Q false H1
def tOr (t u : TT) : TT := fun σ H Q => t σ H fun c H1 => if c = true then Q true H1 else u σ H1 Q
def tNot (t : TT) : TT := fun σ H Q => t σ H fun c H1 => Q (!c) H1
theorem pw_and1 (ha : PT X a tA) : PW X (.BoolOp .And [a] pos) tA := by
  intro wh pins s σ H Q I h
  refine isTrue_and (thn (ha pins s σ H Q I h) fun c s1 e => ?_)
  cases c with
  | true => exact isTrue_and_nil e
  | false => exact e
theorem pw_or1 (ha : PT X a tA) : PW X (.BoolOp .Or [a] pos) tA := by
  intro wh pins s σ H Q I h
  refine isTrue_or (thn (ha pins s σ H Q I h) fun c s1 e => ?_)
  cases c with
  | false => exact isTrue_or_nil e
  | true => exact e
theorem pw_and (ha : PT X a tA) (hb : PW X (.BoolOp .And (b :: rest) pos) tB') : PW X (.BoolOp .And (a :: b :: rest) pos) (tAnd tA tB') := by
  intro wh pins s σ H Q I h
  refine isTrue_and (thn (ha pins s σ H _ I h) fun c s1 ⟨H1, I1, q1⟩ => ?_)
  cases c with
  | true => exact hb wh pins s1 σ H1 Q I1 q1
  | false => exact ⟨H1, I1, q1⟩
theorem pw_or (ha : PT X a tA) (hb : PW X (.BoolOp .Or (b :: rest) pos) tB') : PW X (.BoolOp .Or (a :: b :: rest) pos) (tOr tA tB') := by
  intro wh pins s σ H Q I h
  refine isTrue_or (thn (ha pins s σ H _ I h) fun c s1 ⟨H1, I1, q1⟩ => ?_)
  cases c with
  | true => exact ⟨H1, I1, q1⟩
  | false => exact hb wh pins s1 σ H1 Q I1 q1
theorem pt_not (ha : PT X a tA) : PT X (.UnaryOp .Not a pos) (tNot tA) := by
  intro pins s σ H Q I h
  exact isTrue_not (ha pins s σ H (fun c H1 => Q (!c) H1) I h)
def tAndV (ta tb : TE) : TE := fun σ H Q => ta σ H fun x H1 => ∃ c, x = .bl c ∧ if c = true then tb σ H1 Q else Q (.bl false) H1
theorem pe_and (ha : PE X a ta) (hb : PE X (.BoolOp .And (b :: rest) pos) tb) : PE X (.BoolOp .And (a :: b :: rest) pos) (tAndV ta tb) := by
  intro pins s σ H Q I h
  refine BoolOp_and (thn (ha pins s σ H _ I h) fun v s1 ⟨x, H1, I1, r1, q1⟩ => ?_)
  obtain ⟨c, rfl, q1⟩ := q1
  cases r1
  refine wpAny_truthy_bool ?_
  cases c with
  | true => exact hb pins s1 σ H1 Q I1 q1
  | false => exact ⟨.bl false, H1, I1, rfl, q1⟩
end
end L2
namespace L2
open PySem PySem.Spec PyProof.Rows
def SqL (K : PySem.W.Frag) (H : Hp) (a : Addr) (xs : List V) : Prop :=
  Rd H a (.lst xs) ∨
    ∃ (o : Obj) (its : Array Value) (n : Nat), K.lookup a = some o ∧ o.cls = .type "list" ∧ o.dict = none ∧ o.data = .seq its n ∧ its.size ≤ sizeLine ∧ Vals xs its.toList
def SqT (K : PySem.W.Frag) (H : Hp) (a : Addr) (xs : List V) : Prop :=
  Rd H a (.tup xs) ∨
    ∃ (o : Obj) (its : Array Value) (n : Nat), K.lookup a = some o ∧ o.cls = .type "tuple" ∧ o.data = .seq its n ∧ its.size ≤ sizeLine ∧ Vals xs its.toList
def absV : Value → Option V
  | .none => some .non
  | .bool b => some (.bl b)
  | .int i _ => some (.int i)
  | .str x _ => some (.str x)
  | .bytes b _ => some (.byt b)
  | .float b _ => some (.flt b)
  | .ref a => some (.ref a)
  | .type n => some (.ty n)
  | _ => none
theorem RelV.abs {x : V} {u : Value} (r : RelV x u) : absV u = some x := by
  cases x with
  | non => cases r; rfl
  | bl _ => cases r; rfl
  | int _ => obtain ⟨t, rfl⟩ := r; rfl
  | str _ => obtain ⟨t, rfl⟩ := r; rfl
  | byt _ => obtain ⟨t, rfl⟩ := r; rfl
  | flt _ => obtain ⟨t, rfl⟩ := r; rfl
  | ref _ => cases r; rfl
  | ty _ => cases r; rfl
theorem RelV.inj {x y : V} {u : Value} (r : RelV x u) (q : RelV y u) : x = y := Option.some.inj (r.abs.symm.trans q.abs)
theorem Vals.inj : ∀ {xs ys : List V} {us : List Value}, Vals xs us → Vals ys us → xs = ys
  | _, _, _, .nil, .nil => rfl
  | _, _, _, .cons r t, .cons r' t' => by rw [r.inj r', Vals.inj t t']
section
variable {X : Cx} {pins : List (Addr × Obj)} {σ : St} {H : Hp} {s : Shared} {a : Addr} {xs ys : List V}
theorem SqL.of {K : PySem.W.Frag} (h : H a = some (.lst xs)) : SqL K H a xs := .inl (.inl h)
theorem SqT.of {K : PySem.W.Frag} (h : H a = some (.tup xs)) : SqT K H a xs := .inl (.inl h)
theorem Inv.list (I : Inv X pins σ H s) (h : SqL X.K H a xs) : ∃ its : List Value, Vals xs its ∧ PlainL s.heap a its.toArray ∧ xs.length ≤ sizeLine := by
  rcases h with h | ⟨o, its, n, hk, hc, hd, hs, hz, r⟩
  · obtain ⟨z, its, n, r, e⟩ := h.ok I.hok
    exact ⟨its, r, ⟨_, n, e, rfl, rfl, rfl⟩, z⟩
  · refine ⟨its.toList, r, ⟨o, n, I.kIn a o hk, hc, hd, by simpa using hs⟩, ?_⟩
    have e := r.length
    simp only [Array.length_toList] at e
    omega
theorem Inv.tuple (I : Inv X pins σ H s) (h : SqT X.K H a xs) : ∃ its : List Value, Vals xs its ∧ IsTup s.heap a its.toArray ∧ xs.length ≤ sizeLine := by
  rcases h with h | ⟨o, its, n, hk, hc, hs, hz, r⟩
  · obtain ⟨z, its, r, p⟩ := h.ok I.hok
    exact ⟨its, r, p, z⟩
  · refine ⟨its.toList, r, ⟨o, I.kIn a o hk, hc, n, by simpa using hs⟩, ?_⟩
    have e := r.length
    simp only [Array.length_toList] at e
    omega
theorem Inv.list_inj (I : Inv X pins σ H s) (h : SqL X.K H a xs) (h' : SqL X.K H a ys) : xs = ys := by
  obtain ⟨its, r, ⟨o, n, e, _, _, d⟩, _⟩ := I.list h
  obtain ⟨its', r', ⟨o', n', e', _, _, d'⟩, _⟩ := I.list h'
  rw [e] at e'; cases e'
  rw [d] at d'
  injection d' with d1 _
  have : its = its' := by simpa using congrArg Array.toList d1
  subst this
  exact r.inj r'
theorem Inv.tuple_inj (I : Inv X pins σ H s) (h : SqT X.K H a xs) (h' : SqT X.K H a ys) : xs = ys := by
  obtain ⟨its, r, ⟨o, e, _, n, d⟩, _⟩ := I.tuple h
  obtain ⟨its', r', ⟨o', e', _, n', d'⟩, _⟩ := I.tuple h'
  rw [e] at e'; cases e'
  rw [d] at d'
  injection d' with d1 _
  have : its = its' := by simpa using congrArg Array.toList d1
  subst this
  exact r.inj r'
end
abbrev Cx.wish (X : Cx) (E : Value → Shared → Prop) : Cx := { X with xe := E }
abbrev Cx.nox (X : Cx) : Cx := X.wish fun _ _ => False
theorem Cx.Ok.wish {X : Cx} (ok : X.Ok) (E : Value → Shared → Prop) : (X.wish E).Ok :=
  ⟨ok.mod, ok.kind, ok.glob, ok.blt, ok.above, ok.inj, ok.has, ok.cab, ok.hd, ok.frames, ok.stk, ok.exf, ok.bs, ok.bsz, ok.noex, ok.exfs, ok.funs, ok.frf⟩
theorem Cx.Ok.unwish {X : Cx} {E : Value → Shared → Prop} (ok : (X.wish E).Ok) : X.Ok :=
  ⟨ok.mod, ok.kind, ok.glob, ok.blt, ok.above, ok.inj, ok.has, ok.cab, ok.hd, ok.frames, ok.stk, ok.exf, ok.bs, ok.bsz, ok.noex, ok.exfs, ok.funs, ok.frf⟩
section
variable {X : Cx} {pins : List (Addr × Obj)} {σ : St} {H : Hp} {s : Shared} {E : Value → Shared → Prop}
theorem Inv.wish (I : Inv X pins σ H s) (E : Value → Shared → Prop) : Inv (X.wish E) pins σ H s := ⟨I.ok.wish E, I.os, I.bare, I.base, I.loc, I.cell, I.free, I.freeC, I.pin, I.hok, I.len⟩
theorem Inv.unwish (I : Inv (X.wish E) pins σ H s) : Inv X pins σ H s := ⟨I.ok.unwish, I.os, I.bare, I.base, I.loc, I.cell, I.free, I.freeC, I.pin, I.hok, I.len⟩
theorem SP.unwish {D : Ends} {f : Flow} {s' : Shared} (h : SP (X.wish E) pins D f s') : SP X pins D f s' := by
  cases f with
  | next => obtain ⟨σ', H', I, q⟩ := h; exact ⟨σ', H', I.unwish, q⟩
  | brk => obtain ⟨σ', H', I, q⟩ := h; exact ⟨σ', H', I.unwish, q⟩
  | cont => obtain ⟨σ', H', I, q⟩ := h; exact ⟨σ', H', I.unwish, q⟩
  | ret u => obtain ⟨v, σ', H', I, r, q⟩ := h; exact ⟨v, σ', H', I.unwish, r, q⟩
theorem PE.nox {e : Expr} {t : TE} (h : PE X.nox e t) : PE X e t := fun pins s σ H Q I hw =>
  wpAny_mono (h pins s σ H Q (I.wish _) hw) (fun _ _ ⟨v, H', I', r, q⟩ => ⟨v, H', I'.unwish, r, q⟩) fun _ _ z => False.elim z
theorem PT.nox {e : Expr} {t : TT} (h : PT X.nox e t) : PT X e t := fun pins s σ H Q I hw =>
  wpAny_mono (h pins s σ H Q (I.wish _) hw) (fun _ _ ⟨H', I', q⟩ => ⟨H', I'.unwish, q⟩) fun _ _ z => False.elim z
theorem PSs.nox {st : List Stmt} {t : TS} (h : PSs X.nox st t) : PSs X st t := fun pins s σ H D I hw =>
  wpAny_mono (h pins s σ H D (I.wish _) hw) (fun _ _ q => q.unwish) fun _ _ z => False.elim z
end
section
variable {X : Cx} {st : Stmt} {rest : List Stmt} {t u : TS} {e : Expr} {te : TE} {pos : Pos}
def tNext : TS := fun D σ H => D.nx σ H
def tSeq (t u : TS) : TS := fun D σ H => t { D with nx := u D } σ H
theorem pss_nil : PSs X [] tNext := fun _ _ σ H _ I h => wpAny_execs_nil ⟨σ, H, I, h⟩
theorem pss_cons (h1 : PS X st t) (h2 : PSs X rest u) : PSs X (st :: rest) (tSeq t u) := by
  intro pins s σ H D I h
  refine wpAny_execs_cons (thn (h1 pins s σ H { D with nx := u D } I h) fun f s1 q => ?_)
  cases f with
  | next =>
    obtain ⟨σ', H', I', q⟩ := q
    exact h2 pins s1 σ' H' D I' q
  | ret v => exact q
  | brk => exact q
  | cont => exact q
theorem pss_one (h1 : PS X st t) : PSs X [st] t := by
  intro pins s σ H D I h
  refine wpAny_execs_cons (thn (h1 pins s σ H D I h) fun f s1 q => ?_)
  cases f with
  | next => exact wpAny_execs_nil q
  | ret v => exact q
  | brk => exact q
  | cont => exact q
theorem Inv.quiet {pins : List (Addr × Obj)} {σ : St} {H : Hp} {s : Shared} (I : Inv X pins σ H s) : interactive X.env = false := by simp [interactive, I.ok.kind]
def tDrop (te : TE) : TS := fun D σ H => te σ H fun _ H1 => D.nx σ H1
theorem ps_expr (he : PE X e te) (hs : swapsWith e none pos.line X.env = pure false := by rfl) : PS X (.Expr e pos) (tDrop te) := by
  intro pins s σ H D I h
  exact wpAny_Expr_any (thn (he pins s σ H _ I h) fun v s1 ⟨x, H1, I1, r1, q1⟩ => ⟨σ, H1, I1, q1⟩) I.quiet hs
def tRet (te : TE) : TS := fun D σ H => te σ H D.rt
theorem ps_ret (he : PE X e te) : PS X (.Return (some e) pos) (tRet te) := by
  intro pins s σ H D I h
  exact wpAny_Return_some (thn (he pins s σ H _ I h) fun v s1 ⟨x, H1, I1, r1, q1⟩ => ⟨x, σ, H1, I1, r1, q1⟩)
def tIfS (c : TT) (t u : TS) : TS := fun D σ H => c σ H fun b H1 => if b = true then t D σ H1 else u D σ H1
theorem ps_if {c : Expr} {a b : List Stmt} {tc : TT} (hc : PT X c tc) (ha : PSs X a t) (hb : PSs X b u) : PS X (.If c a b pos) (tIfS tc t u) := by
  intro pins s σ H D I h
  refine wpAny_If (thn (hc pins s σ H _ I h) fun d s1 ⟨H1, I1, q1⟩ => ?_)
  cases d with
  | true => exact ha pins s1 σ H1 D I1 q1
  | false => exact hb pins s1 σ H1 D I1 q1
end
abbrev TG := V → St → Hp → (St → Hp → Prop) → Prop
def PG (X : Cx) (target : Expr) (t : TG) : Prop :=
  ∀ (pins : List (Addr × Obj)) (s : Shared) (σ : St) (H : Hp) (v : V) (u : Value) (Q : St → Hp → Prop), Inv X pins σ H s → RelV v u → t v σ H Q →
    wpAny (model X.prog X.w) X.A (assign target X.env u) (fun _ s' => ∃ σ' H', Inv X pins σ' H' s' ∧ Q σ' H') X.xe s
abbrev TSet := V → V → V → Hp → (Hp → Prop) → Prop
def PSet (X : Cx) (t : TSet) : Prop :=
  ∀ (pins : List (Addr × Obj)) (s : Shared) (σ : St) (H : Hp) (o i v : V) (ov iv u : Value) (Q : Hp → Prop), Inv X pins σ H s → RelV o ov → RelV i iv → RelV v u → t o i v H Q →
    wpAny (model X.prog X.w) X.A (setItem ov iv u) (fun _ s' => ∃ H', Inv X pins σ H' s' ∧ Q H') X.xe s
section
variable {X : Cx} {pos : Pos}
def gName (i : Nat) : TG := fun v σ H Q => Q (σ.set i (some v)) H
theorem pg_name {i : Nat} {x : Str} (hN : X.N.Nodup) (hi : X.N[i]? = some x) (hx : Loc X.env.scope x) (hf : X.fn x = true ∨ X.env.scope.names.lookup x = some .local := by first | exact .inl rfl | exact .inr rfl | assumption) : PG X (.Name x pos) (gName i) := by
  intro pins s σ H v u Q I r h
  exact wpAny_assign_Name (store_ok I hN hi hx r (fun s' I' => ⟨_, H, I', h⟩) hf)
def gSub (to ti : TE) (t : TSet) : TG := fun v σ H Q => to σ H fun o H1 => ti σ H1 fun i H2 => t o i v H2 fun H3 => Q σ H3
theorem pg_sub {o i : Expr} {to ti : TE} {t : TSet} (ho : PE X o to) (hi : PE X i ti) (hs : PSet X t)
    (ha : ∀ v, assign (.Subscript o i pos) X.env v = (do
      let ov ← holding [v] (eval o X.env)
      let iv ← holding [v, ov] (eval i X.env)
      standAt pos
      holding [v, ov, iv] (setItem ov iv v)
      release [v, ov, iv] []) := by intro _; rfl) : PG X (.Subscript o i pos) (gSub to ti t) := by
  intro pins s σ H v u Q I r h
  rw [ha]
  refine wpAny_bind (wpAny_holding (thn (ho pins s σ H _ I h) fun ov s1 ⟨x, H1, I1, r1, q1⟩ => ?_))
  refine wpAny_bind (wpAny_holding (thn (hi pins s1 σ H1 _ I1 q1) fun iv s2 ⟨y, H2, I2, r2, q2⟩ => ?_))
  refine wpAny_bind (wpAny_standAt (wpAny_bind (wpAny_holding (thn (hs pins s2 σ H2 x y v ov iv u _ I2 r1 r2 r q2) fun _ s3 ⟨H3, I3, q3⟩ => ?_))))
  exact wpAny_release ⟨σ, H3, I3, q3⟩
def tAsg (te : TE) (g : TG) : TS := fun D σ H => te σ H fun x H1 => g x σ H1 D.nx
theorem ps_set {i : Nat} {x : Str} {e : Expr} {te : TE} {pos' : Pos} (hN : X.N.Nodup) (hi : X.N[i]? = some x) (hx : Loc X.env.scope x) (he : PE X e te) (hs : swapsWith e (some (.Name x pos')) pos.line X.env = pure false := by rfl) (hf : X.fn x = true ∨ X.env.scope.names.lookup x = some .local := by first | exact .inl rfl | exact .inr rfl | assumption) :
    PS X (.Assign [.Name x pos'] e pos) (tAsg te (gName i)) := by
  intro pins s σ H D I h
  refine wpAny_Assign_Name (thn (he pins s σ H _ I h) fun v s1 ⟨y, H1, I1, r1, q1⟩ => ?_) hs
  exact store_ok I1 hN hi hx r1 (fun s2 I2 => ⟨_, H1, I2, q1⟩) hf
end
section
variable {X : Cx} {pos : Pos}
end
structure It where
  go : Nat → Hp → Prop
  yld : Nat → Hp → V → Hp → Prop
  stop : Nat → Hp → Prop
def FpOk (X : Cx) (pins : List (Addr × Obj)) (H : Hp) (b : Addr) : Prop :=
  H b = none ∧ b ≠ X.env.locals ∧ b ∉ X.fs ∧ (b ∈ X.ex ∨ X.s₀.heap.objs.size ≤ b) ∧ (∀ x c, X.env.cells.lookup x = some c → c ≠ b) ∧ ∀ p ∈ X.pn ++ pins, p.1 ≠ b
theorem Inv.fpOk {X : Cx} {pins : List (Addr × Obj)} {σ : St} {H H' : Hp} {s : Shared} {b : Addr} (I : Inv X pins σ H s) (hb : s.heap.objs.size ≤ b) (hn : H' b = none) : FpOk X pins H' b := by
  refine ⟨hn, Nat.ne_of_gt (Nat.lt_of_lt_of_le I.lt hb), I.nofs hb, .inr (Nat.le_trans I.sz hb), fun x c e z => ?_, fun p hp z => ?_⟩
  · obtain ⟨v, q⟩ := I.cell x c e
    exact absurd (Nat.lt_of_lt_of_le q.lt (by rw [z]; exact hb)) (Nat.lt_irrefl _)
  · exact absurd (Nat.lt_of_lt_of_le (Heap.lt_size (I.pin p hp).1) (by rw [z]; exact hb)) (Nat.lt_irrefl _)
structure Turn (P : Program) (w : World) (K : PySem.W.Frag) (tg : Expr) (J : It) (fp : List Addr) (it : Addr) (tn : Nat → Heap → Prop) : Prop where
  mem : it ∈ fp
  obj : ∀ i h, tn i h → ∀ b ∈ fp, ∃ o, h.get? b = some o ∧ ∀ v, o.data ≠ .cell v
  keep : ∀ i h h', tn i h → (∀ b ∈ fp, ∀ o, h.get? b = some o → h'.get? b = some o) → tn i h'
  item : ∀ (X : Cx), X.prog = P → X.w = w → X.K = K → X.calm = true → ∀ (i : Nat) (pins : List (Addr × Obj)) (s : Shared) (σ : St) (H : Hp) (E : Value → Shared → Prop), Inv X pins σ H s → (∀ b ∈ fp, FpOk X pins H b) → tn i s.heap → J.go i H →
    wpAny (model P w) X.A (pyNext (.ref it)) (fun r s1 => ∃ u, r = some u ∧
      wpAny (model P w) X.A (letOwnedTupleGo tg (.ref it) u) (fun _ s2 => ∃ x H', Inv X pins σ H' s2 ∧ RelV x u ∧ J.yld i H x H' ∧ tn (i + 1) s2.heap ∧ ∀ b ∈ fp, H' b = none) E s1) E s
  done : ∀ (X : Cx), X.prog = P → X.w = w → X.K = K → X.calm = true → ∀ (i : Nat) (pins : List (Addr × Obj)) (s : Shared) (σ : St) (H : Hp) (E : Value → Shared → Prop), Inv X pins σ H s → (∀ b ∈ fp, FpOk X pins H b) → tn i s.heap → J.stop i H →
    wpAny (model P w) X.A (pyNext (.ref it)) (fun r s1 => r = none ∧ Inv X pins σ H s1) E s
  self : ∀ (A : Around) (i : Nat) (s : Shared) (Q : Value → Shared → Prop) (E : Value → Shared → Prop), tn i s.heap → Q (.ref it) s → wpAny (model P w) A (pyIter (.ref it)) Q E s
abbrev TI := St → Hp → (It → Hp → Prop) → Prop
def PIE (X : Cx) (pins : List (Addr × Obj)) (σ : St) (tg : Expr) (R : It → Hp → Prop) (itv : Value) (s2 : Shared) : Prop :=
  ∃ (it : Addr) (fp : List Addr) (tn : Nat → Heap → Prop) (J : It) (H' : Hp), itv = .ref it ∧ Inv X pins σ H' s2 ∧ Turn X.prog X.w X.K tg J fp it tn ∧ tn 0 s2.heap ∧ (∀ b ∈ fp, FpOk X pins H' b) ∧ R J H'
def PI (X : Cx) (tg iter : Expr) (wi : TI) : Prop :=
  ∀ (pins : List (Addr × Obj)) (s : Shared) (σ : St) (H : Hp) (R : It → Hp → Prop), Inv X pins σ H s → wi σ H R →
    wpAny (model X.prog X.w) X.A (eval iter X.env) (fun v s1 => wpAny (model X.prog X.w) X.A (pyIter v) (PIE X pins σ tg R) X.xe s1) X.xe s
theorem go_of {M : Model} {A : Around} {E : Value → Shared → Prop} {s : Shared} {tg : Expr} {it : Addr} {u : Value} {o : Obj} {n : String} {vs : Array Value} {Q : Unit → Shared → Prop} (ho : s.heap.get? it = some o) (hc : o.cls = .type n) (hd : o.data = .fields vs)
    (hn : ["enumerate", "zip", "dict_itemiterator", "dict_reverseitemiterator", "odict_iterator", "itertools.zip_longest", "itertools.pairwise"].contains n = false) (hQ : Q () s) : wpAny M A (letOwnedTupleGo tg (.ref it) u) Q E s := by
  unfold letOwnedTupleGo
  cases tg <;> first
    | exact wpAny_pure hQ
    | (cases u <;> first
        | exact wpAny_pure hQ
        | (refine wpAny_bind (wpAny_load ho ?_)
           rw [hc, hd]
           show wpAny M A (if (["enumerate", "zip", "dict_itemiterator", "dict_reverseitemiterator", "odict_iterator", "itertools.zip_longest", "itertools.pairwise"].contains n && vs[0]? == some (rawInt _)) = true then _ else _) Q E s
           rw [if_neg (by intro h; rw [hn, Bool.false_and] at h; cases h)]
           exact wpAny_pure hQ))
def Itl (K : PySem.W.Frag) (a : Addr) : It :=
  ⟨fun i H => ∃ xs x, SqL K H a xs ∧ xs[i]? = some x, fun i H x H' => H' = H ∧ ∀ xs, SqL K H a xs → xs[i]? = some x, fun i H => ∃ xs, SqL K H a xs ∧ xs.length ≤ i⟩
def Itt (K : PySem.W.Frag) (a : Addr) : It :=
  ⟨fun i H => ∃ xs x, SqT K H a xs ∧ xs[i]? = some x, fun i H x H' => H' = H ∧ ∀ xs, SqT K H a xs → xs[i]? = some x, fun i H => ∃ xs, SqT K H a xs ∧ xs.length ≤ i⟩
def Itr (lo : Int) (n : Nat) : It := ⟨fun i _ => i < n, fun i H x H' => H' = H ∧ x = .int (lo + i), fun i _ => n ≤ i⟩
theorem turn_list {P : Program} {w : World} {K : PySem.W.Frag} {tg : Expr} (a it : Addr) : Turn P w K tg (Itl K a) [it] it (fun i h => h.IsListIter it a i) where
  mem := by simp
  obj := fun i h st b hb => by
    have e : b = it := by simpa using hb
    subst e
    obtain ⟨o, e, c, d⟩ := st
    exact ⟨o, e, fun v z => by rw [d] at z; cases z⟩
  keep := fun i h h' st k => st.at fun o e => k it (by simp) o e
  item := by
    intro X hP hw hK hc i pins s σ H E I hf st hg
    subst hP hw hK
    obtain ⟨xs, x, hq, hx⟩ := hg
    obtain ⟨its, rv, p, hz⟩ := I.list hq
    obtain ⟨u, hu, ru⟩ := rv.get hx
    obtain ⟨f0, f1, f2, f3, f4, f5⟩ := hf it (by simp)
    refine wpAny_pyNext_list_item st p.isList (x := u) (by simpa using hu) fun h' st' sb => ?_
    have I1 : Inv X pins σ H { s with heap := h' } := I.turned (t' := s.toks) (fun b o hb e => (sb.2 b hb).trans e) f0 f1 f3 f4 f5
    obtain ⟨o, e, c, d⟩ := id st'
    exact ⟨u, rfl, go_of (s := { s with heap := h' }) e c d (by decide) ⟨x, H, I1, ru, ⟨rfl, fun ys hy => by rw [I.list_inj hy hq]; exact hx⟩, st', fun b hb => (hf b hb).1⟩⟩
  done := by
    intro X hP hw hK hc i pins s σ H E I hf st hg
    subst hP hw hK
    obtain ⟨xs, hq, hx⟩ := hg
    obtain ⟨its, rv, p, hz⟩ := I.list hq
    obtain ⟨f0, f1, f2, f3, f4, f5⟩ := hf it (by simp)
    have hl := rv.length
    exact wpAny_pyNext_list_end (I.ok.hd hc) st p.isList (by simp; omega) fun h' eb => ⟨rfl, I.turned (t' := s.toks) (fun b o hb e => eb b o hb e) f0 f1 f3 f4 f5⟩
  self := fun _ _ _ _ _ st h => wpAny_pyIter_listiter st h
theorem turn_tuple {P : Program} {w : World} {K : PySem.W.Frag} {tg : Expr} (a it : Addr) : Turn P w K tg (Itt K a) [it] it (fun i h => h.IsTupleIter it a i) where
  mem := by simp
  obj := fun i h st b hb => by
    have e : b = it := by simpa using hb
    subst e
    obtain ⟨o, e, c, d⟩ := st
    exact ⟨o, e, fun v z => by rw [d] at z; cases z⟩
  keep := fun i h h' st k => st.at fun o e => k it (by simp) o e
  item := by
    intro X hP hw hK hc i pins s σ H E I hf st hg
    subst hP hw hK
    obtain ⟨xs, x, hq, hx⟩ := hg
    obtain ⟨its, rv, p, hz⟩ := I.tuple hq
    obtain ⟨u, hu, ru⟩ := rv.get hx
    obtain ⟨f0, f1, f2, f3, f4, f5⟩ := hf it (by simp)
    refine wpAny_pyNext_tuple_item st (show s.heap.IsTuple a its.toArray from p) (x := u) (by simpa using hu) fun h' st' sb => ?_
    have I1 : Inv X pins σ H { s with heap := h' } := I.turned (t' := s.toks) (fun b o hb e => (sb.2 b hb).trans e) f0 f1 f3 f4 f5
    obtain ⟨o, e, c, d⟩ := id st'
    exact ⟨u, rfl, go_of (s := { s with heap := h' }) e c d (by decide) ⟨x, H, I1, ru, ⟨rfl, fun ys hy => by rw [I.tuple_inj hy hq]; exact hx⟩, st', fun b hb => (hf b hb).1⟩⟩
  done := by
    intro X hP hw hK hc i pins s σ H E I hf st hg
    subst hP hw hK
    obtain ⟨xs, hq, hx⟩ := hg
    obtain ⟨its, rv, p, hz⟩ := I.tuple hq
    obtain ⟨f0, f1, f2, f3, f4, f5⟩ := hf it (by simp)
    have hl := rv.length
    exact wpAny_pyNext_tuple_end (I.ok.hd hc) st (show s.heap.IsTuple a its.toArray from p) (by simp; omega) fun h' eb => ⟨rfl, I.turned (t' := s.toks) (fun b o hb e => eb b o hb e) f0 f1 f3 f4 f5⟩
  self := fun _ _ _ _ _ st h => wpAny_pyIter_tupleiter st h
theorem turn_range {P : Program} {w : World} {K : PySem.W.Frag} {tg : Expr} (it : Addr) (lo : Int) (n : Nat) : Turn P w K tg (Itr lo n) [it] it (fun i h => IsRangeIter h it (lo + (i : Nat) * 1) ((n : Int) - (i : Nat)) 1) where
  mem := by simp
  obj := fun i h st b hb => by
    have e : b = it := by simpa using hb
    subst e
    exact ⟨_, st, fun v z => by
      have z' : Data.fields _ = Data.cell v := z
      cases z'⟩
  keep := fun i h h' st k => k it (by simp) _ st
  item := by
    intro X hP hw hK hc i pins s σ H E I hf st hg
    subst hP hw hK
    obtain ⟨f0, f1, f2, f3, f4, f5⟩ := hf it (by simp)
    have W := Walks.range (prog := X.prog) (w := X.w) (I.ok.hd hc) it lo 1 n
    refine W.item i s _ _ hg st fun v h' tk hv st' kk => ?_
    obtain ⟨t, rfl⟩ := hv
    have I1 : Inv X pins σ H { s with heap := h', toks := tk } := I.turned (fun b o hb e => kk b o (by simpa using hb) e) f0 f1 f3 f4 f5
    refine ⟨_, rfl, go_of (s := { s with heap := h', toks := tk }) (n := "range_iterator") st' rfl rfl (by decide) ⟨.int (lo + i), H, I1, ⟨t, ?_⟩, ⟨rfl, rfl⟩, st', fun b hb => (hf b hb).1⟩⟩
    rw [Int.mul_one]
  done := by
    intro X hP hw hK hc i pins s σ H E I hf st hg
    subst hP hw hK
    obtain ⟨f0, f1, f2, f3, f4, f5⟩ := hf it (by simp)
    exact wpAny_pyNext_range_end (I.ok.hd hc) st (by have : n ≤ i := hg; omega) fun h' eb => ⟨rfl, I.turned (t' := s.toks) (fun b o hb e => eb b o hb e) f0 f1 f3 f4 f5⟩
  self := fun _ _ _ _ _ st h => wpAny_pyIter_rangeiter st h
end L2
namespace L2
open PySem PySem.Spec PyProof.Rows
section
variable {X : Cx} {tg : Expr}
def iList (K : PySem.W.Frag) (tl : TE) : TI := fun σ H R => tl σ H fun x H1 => ∃ a, x = .ref a ∧ (∃ xs, SqL K H1 a xs) ∧ R (Itl K a) H1
def iTup (K : PySem.W.Frag) (tl : TE) : TI := fun σ H R => tl σ H fun x H1 => ∃ a, x = .ref a ∧ (∃ xs, SqT K H1 a xs) ∧ R (Itt K a) H1
theorem pi_list {l : Expr} {tl : TE} (hl : PE X l tl) : PI X tg l (iList X.K tl) := by
  intro pins s σ H R I h
  refine thn (hl pins s σ H _ I h) fun v s1 ⟨x, H1, I1, r1, q1⟩ => ?_
  obtain ⟨a, e, ⟨xs, hq⟩, q⟩ := q1
  subst e
  cases r1
  obtain ⟨its, rv, p, hz⟩ := I1.list hq
  refine wpAny_pyIter_list p.isList ?_
  refine ⟨s1.heap.objs.size, [s1.heap.objs.size], _, _, H1, rfl, I1.kept (t' := s1.toks) fun b o e => Heap.get?_push_of_some _ e, turn_list a _, ⟨_, Heap.get?_push_size _ rfl, rfl, rfl⟩, fun b hb => ?_, q⟩
  have e : b = s1.heap.objs.size := by simpa using hb
  subst e
  exact I1.fpOk (Nat.le_refl _) (I1.hok.fresh (Nat.le_refl _))
theorem pi_tup {l : Expr} {tl : TE} (hl : PE X l tl) : PI X tg l (iTup X.K tl) := by
  intro pins s σ H R I h
  refine thn (hl pins s σ H _ I h) fun v s1 ⟨x, H1, I1, r1, q1⟩ => ?_
  obtain ⟨a, e, ⟨xs, hq⟩, q⟩ := q1
  subst e
  cases r1
  obtain ⟨its, rv, p, hz⟩ := I1.tuple hq
  refine wpAny_pyIter_tuple (show s1.heap.IsTuple a its.toArray from p) ?_
  refine ⟨s1.heap.objs.size, [s1.heap.objs.size], _, _, H1, rfl, I1.kept (t' := s1.toks) fun b o e => Heap.get?_push_of_some _ e, turn_tuple a _, ⟨_, Heap.get?_push_size _ rfl, rfl, rfl⟩, fun b hb => ?_, q⟩
  have e : b = s1.heap.objs.size := by simpa using hb
  subst e
  exact I1.fpOk (Nat.le_refl _) (I1.hok.fresh (Nat.le_refl _))
theorem range_it {pins : List (Addr × Obj)} {σ : St} {H : Hp} {s : Shared} {R : It → Hp → Prop} {E : Value → Shared → Prop} {lo hi : Int} {t u v : Tok} {tk : Nat} (I : Inv X pins σ H s) (h1 : -(2 ^ 62) ≤ lo) (h2 : lo < 2 ^ 62) (h3 : -(2 ^ 62) ≤ hi) (h4 : hi < 2 ^ 62)
    (q : R (Itr lo (hi - lo).toNat) H) : wpAny (model X.prog X.w) X.A (pyIter (.ref s.heap.objs.size)) (PIE X pins σ tg R) E { s with heap := s.heap.push { cls := .type "range", data := .fields #[.int lo t, .int hi u, .int 1 v] }, toks := tk } := by
  refine wpAny_pyIter_range (IsRange.new ..) (small_one h1 h2 h3 h4) ?_
  have I1 : Inv X pins σ H { s with heap := s.heap.push { cls := .type "range", data := .fields #[.int lo t, .int hi u, .int 1 v] }, toks := tk } := I.kept fun b o e => Heap.get?_push_of_some _ e
  refine ⟨(s.heap.push { cls := .type "range", data := .fields #[.int lo t, .int hi u, .int 1 v] }).objs.size, [(s.heap.push { cls := .type "range", data := .fields #[.int lo t, .int hi u, .int 1 v] }).objs.size], _, _, H, rfl,
    I1.kept (t' := tk) fun b o e => Heap.get?_push_of_some _ e, turn_range _ lo (hi - lo).toNat, ?_, fun b hb => ?_, q⟩
  · have e1 : lo + ((0 : Nat) : Int) * 1 = lo := by simp
    have e2 : (((hi - lo).toNat : Nat) : Int) - ((0 : Nat) : Int) = Builtin.Range.rangeSize lo hi 1 := by rw [rangeSize_one]; split <;> omega
    show IsRangeIter _ _ (lo + ((0 : Nat) : Int) * 1) ((((hi - lo).toNat : Nat) : Int) - ((0 : Nat) : Int)) 1
    rw [e1, e2]
    exact Heap.get?_push_size _ rfl
  · have e : b = (s.heap.push { cls := .type "range", data := .fields #[.int lo t, .int hi u, .int 1 v] }).objs.size := by simpa using hb
    subst e
    exact I1.fpOk (Nat.le_refl _) (I1.hok.fresh (Nat.le_refl _))
def iRng1 (ta : TA) : TI := fun σ H R => ta σ H fun vs H1 => ∃ j : Int, vs = [.int j] ∧ -(2 ^ 62) ≤ j ∧ j < 2 ^ 62 ∧ R (Itr 0 j.toNat) H1
theorem pi_range1 {a : Expr} {ta : TA} {p pos : Pos} (hg : Gl X "range") (hm : X.mg "range" = none) (ha : PA X [a] ta) (hs : starEach [a] X.env = [(false, eval a X.env)] := by rfl) : PI X tg (.Call (.Name "range" p) [a] [] pos) (iRng1 ta) := by
  intro pins s σ H R I h
  refine Call_ (ld_blt I hg hm boot_range (PyProof.Rows.callWith_type1 (thn (ha pos pins s σ H _ I h) fun us s1 ⟨vs, H1, I1, r1, q1⟩ => ?_) hs rfl))
  obtain ⟨j, e, q1, q2, q⟩ := q1
  subst e
  cases r1 with
  | cons r rr =>
    cases rr
    obtain ⟨t, rfl⟩ := r
    exact call_range_1 (range_it I1 (by omega) (by omega) q1 q2 (by simpa using q))
def tFor (wi : TI) (g : TG) (tb : TS) : TS := fun D σ H => wi σ H fun J H1 => ∃ W : Nat → Nat → St → Hp → Prop, (∃ m, W 0 m σ H1) ∧ ∀ i m σ H, W i m σ H →
  (J.stop i H ∧ D.nx σ H) ∨ (J.go i H ∧ ∃ N : St → Hp → Prop, (∀ σ' H', N σ' H' → ∃ m', m' < m ∧ W (i + 1) m' σ' H') ∧ ∀ x H', J.yld i H x H' → g x σ H' fun σ2 H2 => tb { D with nx := N, ct := N, bk := D.nx } σ2 H2)
def pinsAt (fp : List Addr) (h : Heap) : List (Addr × Obj) := fp.filterMap fun b => (h.get? b).map fun o => (b, o)
theorem mem_pinsAt {fp : List Addr} {h : Heap} {b : Addr} {o : Obj} (hb : b ∈ fp) (e : h.get? b = some o) : (b, o) ∈ pinsAt fp h := List.mem_filterMap.mpr ⟨b, hb, by rw [e]; rfl⟩
theorem of_pinsAt {fp : List Addr} {h : Heap} {p : Addr × Obj} (hp : p ∈ pinsAt fp h) : p.1 ∈ fp ∧ h.get? p.1 = some p.2 := by
  obtain ⟨b, hb, e⟩ := List.mem_filterMap.mp hp
  cases q : h.get? b with
  | none => rw [q] at e; cases e
  | some o =>
    rw [q] at e
    have e' : (b, o) = p := Option.some.inj e
    subst e'
    exact ⟨hb, q⟩
theorem Inv.pinned {pins : List (Addr × Obj)} {σ : St} {H : Hp} {s : Shared} {fp : List Addr} (I : Inv X pins σ H s) (hf : ∀ b ∈ fp, FpOk X pins H b) (ho : ∀ b ∈ fp, ∃ o, s.heap.get? b = some o ∧ ∀ v, o.data ≠ .cell v) : Inv X (pins ++ pinsAt fp s.heap) σ H s :=
  I.pins_of fun p hp => (List.mem_append.mp hp).elim (fun z => I.pin p (List.mem_append_right _ z)) fun z => by
    obtain ⟨hb, e⟩ := of_pinsAt z
    obtain ⟨f0, f1, f2, _⟩ := hf p.1 hb
    obtain ⟨o, e', d⟩ := ho p.1 hb
    rw [e] at e'; cases e'
    exact ⟨e, f0, f1, f2, d⟩
theorem Inv.unpinned {pins pl : List (Addr × Obj)} {σ : St} {H : Hp} {s : Shared} (I : Inv X (pins ++ pl) σ H s) : Inv X pins σ H s := I.pins_of fun p hp => I.pin p (List.mem_append_right _ (List.mem_append_left _ hp))
theorem ps_for {iter : Expr} {body : List Stmt} {wi : TI} {g : TG} {tb : TS} {pos : Pos} (hp : PassesOwn (model X.prog X.w) X.A X.env X.xe) (hc : X.calm = true) (hi : PI X tg iter wi) (hg : PG X tg g) (hb : PSs X body tb)
    (hs : ∀ x, foldedSetIterable iter X.env x = pure x := by intro _; rfl) : PS X (.For tg iter body [] pos) (tFor wi g tb) := by
  intro pins s σ H D I h
  refine wpAny_For (thn (hi pins s σ H _ I h) fun v s1 h1 => thn h1 fun itv s2 h2 => ?_) hs
  obtain ⟨it, fp, tn, J, H2, e, I2, T, st2, f2, W, ⟨m0, w0⟩, turn⟩ := h2
  subst e
  have stat : ∀ {H' : Hp}, (∀ b ∈ fp, H' b = none) → ∀ b ∈ fp, FpOk X pins H' b := fun hn b hb => ⟨hn b hb, (f2 b hb).2⟩
  refine codeAny_forLoop_any (fun n s' => ∃ i σ' H', Inv X pins σ' H' s' ∧ tn i s'.heap ∧ (∀ b ∈ fp, H' b = none) ∧ W i n σ' H') ?_ m0 ⟨0, σ, H2, I2, st2, fun b hb => (f2 b hb).1, w0⟩
  rintro n s3 ⟨i, σ3, H3, I3, st3, fr3, w3⟩
  rcases turn i n σ3 H3 w3 with ⟨stop, qn⟩ | ⟨go, N, hN, step⟩
  · refine wpAny_passesOwn hp (thn (T.done X rfl rfl rfl hc i pins s3 σ3 H3 X.xe I3 (stat fr3) st3 stop) fun r s4 ⟨hr, I4⟩ => ?_)
    subst hr
    exact wpAny_execs_nil ⟨σ3, H3, I4, qn⟩
  · refine wpAny_passesOwn hp (thn (T.item X rfl rfl rfl hc i pins s3 σ3 H3 X.xe I3 (stat fr3) st3 go) fun r s4 ⟨u, hr, h4⟩ => ?_)
    subst hr
    refine wpAny_passesOwn hp (thn h4 fun _ s5 ⟨x, H5, I5, r5, y5, st5, fr5⟩ => ?_)
    have I5' := I5.pinned (stat fr5) (T.obj _ _ st5)
    refine wpAny_passesOwn hp (thn (hg _ s5 σ3 H5 x u _ I5' r5 (step x H5 y5)) fun _ s6 ⟨σ6, H6, I6, q6⟩ => ?_)
    refine wpAny_passesOwn hp (thn (hb _ s6 σ6 H6 _ I6 q6) fun f s7 q7 => ?_)
    have again : ∀ {σ7 : St} {H7 : Hp}, Inv X (pins ++ pinsAt fp s5.heap) σ7 H7 s7 → N σ7 H7 → ∃ m, m < n ∧ ∃ i σ' H', Inv X pins σ' H' s7 ∧ tn i s7.heap ∧ (∀ b ∈ fp, H' b = none) ∧ W i m σ' H' := fun {σ7 H7} I7 n7 => by
      obtain ⟨m', hm, w7⟩ := hN σ7 H7 n7
      refine ⟨m', hm, i + 1, σ7, H7, I7.unpinned, T.keep _ _ _ st5 fun b hb o e => (I7.pin (b, o) (List.mem_append_right _ (List.mem_append_right _ (mem_pinsAt hb e)))).1, fun b hb => ?_, w7⟩
      obtain ⟨o, e, d⟩ := T.obj _ _ st5 b hb
      exact (I7.pin (b, o) (List.mem_append_right _ (List.mem_append_right _ (mem_pinsAt hb e)))).2.1
    cases f with
    | next => obtain ⟨σ7, H7, I7, n7⟩ := q7; exact again I7 n7
    | cont => obtain ⟨σ7, H7, I7, n7⟩ := q7; exact again I7 n7
    | brk => obtain ⟨σ7, H7, I7, q7⟩ := q7; exact ⟨σ7, H7, I7.unpinned, q7⟩
    | ret v => obtain ⟨x7, σ7, H7, I7, r7, q7⟩ := q7; exact ⟨x7, σ7, H7, I7.unpinned, r7, q7⟩
end
end L2
namespace L2
open PySem PySem.Spec PyProof.Rows
abbrev R2 := V → V → Hp → VK → Prop
def OpR (X : Cx) (f : Value → Value → Sem Value) (r : R2) : Prop :=
  ∀ (pins : List (Addr × Obj)) (s : Shared) (σ : St) (H : Hp) (x y : V) (v u : Value) (Q : VK), Inv X pins σ H s → RelV x v → RelV y u → r x y H Q →
    wpAny (model X.prog X.w) X.A (f v u) (EP X pins σ Q) X.xe s
def UnR (X : Cx) (f : Value → Sem Value) (r : V → Hp → VK → Prop) : Prop :=
  ∀ (pins : List (Addr × Obj)) (s : Shared) (σ : St) (H : Hp) (x : V) (v : Value) (Q : VK), Inv X pins σ H s → RelV x v → r x H Q →
    wpAny (model X.prog X.w) X.A (f v) (EP X pins σ Q) X.xe s
def CallR (X : Cx) (f : Value) (r : List V → Hp → VK → Prop) : Prop :=
  ∀ (pins : List (Addr × Obj)) (s : Shared) (σ : St) (H : Hp) (xs : List V) (us : List Value) (Q : VK), Inv X pins σ H s → Vals xs us → r xs H Q →
    wpAny (model X.prog X.w) X.A (call f us) (EP X pins σ Q) X.xe s
def tOp (r : R2) (ta tb : TE) : TE := fun σ H Q => ta σ H fun x H1 => tb σ H1 fun y H2 => r x y H2 Q
def tUn (r : V → Hp → VK → Prop) (ta : TE) : TE := fun σ H Q => ta σ H fun x H1 => r x H1 Q
def rI (C : Int → Int → Prop) (g : Int → Int → V) : R2 := fun x y H Q => ∃ i j, x = .int i ∧ y = .int j ∧ C i j ∧ Q (g i j) H
def rI0 (g : Int → Int → V) : R2 := fun x y H Q => ∃ i j, x = .int i ∧ y = .int j ∧ Q (g i j) H
def rU (g : Int → V) : V → Hp → VK → Prop := fun x H Q => ∃ i, x = .int i ∧ Q (g i) H
section
variable {X : Cx} {a b c : Expr} {ta tb tc : TE} {pos : Pos}
theorem binT (ha : PE X a ta) (hb : PE X b tb) {pins : List (Addr × Obj)} {s : Shared} {σ : St} {H : Hp} {R : V → V → Hp → Prop} (I : Inv X pins σ H s)
    (h : ta σ H fun x H1 => tb σ H1 fun y H2 => R x y H2) {Q : Value → Shared → Prop} {f : Value → Value → Sem Value}
    (hf : ∀ v u s2 x y H2, Inv X pins σ H2 s2 → RelV x v → RelV y u → R x y H2 → wpAny (model X.prog X.w) X.A (f v u) Q X.xe s2) :
    wpAny (model X.prog X.w) X.A (eval a X.env) (fun v s₁ => wpAny (model X.prog X.w) X.A (eval b X.env) (fun u s₂ => wpAny (model X.prog X.w) X.A (f v u) Q X.xe s₂) X.xe s₁) X.xe s := by
  refine thn (ha pins s σ H _ I h) fun v s1 ⟨x, H1, I1, r1, q1⟩ => ?_
  refine thn (hb pins s1 σ H1 _ I1 q1) fun u s2 ⟨y, H2, I2, r2, q2⟩ => ?_
  exact hf v u s2 x y H2 I2 r1 r2 q2
theorem pe_un {op : UnaryOp} {r : V → Hp → VK → Prop} (ho : UnR X (unaryOp op) r) (ha : PE X a ta) : PE X (.UnaryOp op a pos) (tUn r ta) := by
  intro pins s σ H Q I h
  exact UnaryOp_ (thn (ha pins s σ H _ I h) fun v s1 ⟨x, H1, I1, r1, q1⟩ => ho pins s1 σ H1 x v Q I1 r1 q1)
theorem opI {f : Value → Value → Sem Value} {C : Int → Int → Prop} {g : Int → Int → Int}
    (rule : ∀ (i j : Int) (t u : Tok) (s : Shared) (Q : Value → Shared → Prop) (E : Value → Shared → Prop), C i j → Q (.int (g i j) s.toks) { s with toks := s.toks + 1 } → wpAny (model X.prog X.w) X.A (f (.int i t) (.int j u)) Q E s) :
    OpR X f (rI C fun i j => .int (g i j)) := by
  intro pins s σ H x y v u Q I rx ry h
  obtain ⟨i, j, rfl, rfl, hc, q⟩ := h
  obtain ⟨t, rfl⟩ := rx
  obtain ⟨t', rfl⟩ := ry
  exact rule i j t t' s _ _ hc ⟨.int (g i j), H, I.tok _, ⟨_, rfl⟩, q⟩
theorem opI0 {f : Value → Value → Sem Value} {g : Int → Int → Int}
    (rule : ∀ (i j : Int) (t u : Tok) (s : Shared) (Q : Value → Shared → Prop) (E : Value → Shared → Prop), Q (.int (g i j) s.toks) { s with toks := s.toks + 1 } → wpAny (model X.prog X.w) X.A (f (.int i t) (.int j u)) Q E s) :
    OpR X f (rI0 fun i j => .int (g i j)) := by
  intro pins s σ H x y v u Q I rx ry h
  obtain ⟨i, j, rfl, rfl, q⟩ := h
  obtain ⟨t, rfl⟩ := rx
  obtain ⟨t', rfl⟩ := ry
  exact rule i j t t' s _ _ ⟨.int (g i j), H, I.tok _, ⟨_, rfl⟩, q⟩
theorem opB0 {f : Value → Value → Sem Value} {g : Int → Int → Bool}
    (rule : ∀ (i j : Int) (t u : Tok) (s : Shared) (Q : Value → Shared → Prop) (E : Value → Shared → Prop), Q (.bool (g i j)) s → wpAny (model X.prog X.w) X.A (f (.int i t) (.int j u)) Q E s) :
    OpR X f (rI0 fun i j => .bl (g i j)) := by
  intro pins s σ H x y v u Q I rx ry h
  obtain ⟨i, j, rfl, rfl, q⟩ := h
  obtain ⟨t, rfl⟩ := rx
  obtain ⟨t', rfl⟩ := ry
  exact rule i j t t' s _ _ ⟨.bl (g i j), H, I, rfl, q⟩
def CMul (i j : Int) : Prop := (-(2 ^ 64) < i ∧ i < 2 ^ 64) ∨ (-(2 ^ 64) < j ∧ j < 2 ^ 64)
theorem CMul.ok {i j : Int} (h : CMul i j) : IntMulOk i j := by
  rcases h with ⟨h1, h2⟩ | ⟨h1, h2⟩
  · exact .of_left (intBits_le_64 h1 h2)
  · exact .of_right (intBits_le_64 h1 h2)
theorem op_add : OpR X (binaryOp .Add) (rI0 fun i j => .int (i + j)) := opI0 fun _ _ _ _ _ _ _ q => add_int q
theorem op_sub : OpR X (binaryOp .Sub) (rI0 fun i j => .int (i - j)) := opI0 fun _ _ _ _ _ _ _ q => sub_int q
theorem op_mod : OpR X (binaryOp .Mod) (rI (fun _ j => 0 < j) fun i j => .int (i % j)) := opI fun i j _ _ _ _ _ hc q => by
  have h1 : (0 : Int) < j := hc
  exact mod_int' (by omega) (by rw [Int.fmod_eq_emod_of_nonneg i (by omega)]; exact q)
theorem unI {f : Value → Sem Value} {g : Int → Int}
    (rule : ∀ (i : Int) (t : Tok) (s : Shared) (Q : Value → Shared → Prop) (E : Value → Shared → Prop), Q (.int (g i) s.toks) { s with toks := s.toks + 1 } → wpAny (model X.prog X.w) X.A (f (.int i t)) Q E s) :
    UnR X f (rU fun i => .int (g i)) := by
  intro pins s σ H x v Q I rx h
  obtain ⟨i, rfl, q⟩ := h
  obtain ⟨t, rfl⟩ := rx
  exact rule i t s _ _ ⟨.int (g i), H, I.tok _, ⟨_, rfl⟩, q⟩
theorem un_neg : UnR X (unaryOp .USub) (rU fun i => .int (-i)) := unI fun _ _ _ _ _ q => neg_int q
end
def scal : V → V → Bool
  | .non, .non => true | .non, .int _ => true | .int _, .non => true | .non, .bl _ => true | .bl _, .non => true | .non, .str _ => true | .str _, .non => true
  | .int _, .int _ => true | .bl _, .bl _ => true | .str _, .str _ => true | .byt _, .byt _ => true
  | .int _, .str _ => true | .str _, .int _ => true | .bl _, .str _ => true | .str _, .bl _ => true
  | _, _ => false
def rEq : R2 := fun x y H Q => scal x y = true ∧ Q (.bl (decide (x = y))) H
def rNe : R2 := fun x y H Q => scal x y = true ∧ Q (.bl (!decide (x = y))) H
theorem dec_int {i j : Int} : decide (V.int i = V.int j) = (i == j) := by
  rw [Bool.eq_iff_iff]
  simp
theorem dec_bl {i j : Bool} : decide (V.bl i = V.bl j) = (i == j) := by
  rw [Bool.eq_iff_iff]
  simp
theorem dec_str {i j : Str} : decide (V.str i = V.str j) = (i == j) := by
  rw [Bool.eq_iff_iff]
  simp
theorem dec_byt {i j : Array UInt8} : decide (V.byt i = V.byt j) = (i.toList == j.toList) := by
  rw [Bool.eq_iff_iff]
  cases i
  cases j
  simp
section
variable {X : Cx} {a b c : Expr} {ta tb tc : TE} {pos : Pos}
theorem fin_bl {pins : List (Addr × Obj)} {σ : St} {H : Hp} {s : Shared} {Q : VK} {k k' : Bool} (I : Inv X pins σ H s) (q : Q (.bl k) H) (e : k = k') : EP X pins σ Q (.bool k') s := by
  subst e
  exact ⟨.bl k, H, I, rfl, q⟩
theorem op_eq : OpR X (compareOp .Eq) rEq := by
  intro pins s σ H x y v u Q I rx ry h
  obtain ⟨hs, q⟩ := h
  cases x with
  | non =>
    cases rx
    cases y with
    | non => cases ry; exact PySem.EqNone.eq_none_none (fin_bl I q (by simp))
    | bl j => cases ry; exact PySem.EqNone.eq_none_bool (fin_bl I q (by simp))
    | int j => obtain ⟨t', rfl⟩ := ry; exact PySem.EqNone.eq_none_int (fin_bl I q (by simp))
    | str j => obtain ⟨t', rfl⟩ := ry; exact PySem.EqNone.eq_none_str (fin_bl I q (by simp))
    | _ => exact absurd (show false = true from hs) Bool.false_ne_true
  | bl i =>
    cases rx
    cases y with
    | non => cases ry; exact PySem.EqNone.eq_bool_none (fin_bl I q (by simp))
    | bl j => cases ry; exact eq_bool (fin_bl I q dec_bl)
    | str j => obtain ⟨t', rfl⟩ := ry; exact PySem.EqMixed.eq_bool_str (fin_bl I q (by simp))
    | _ => exact absurd (show false = true from hs) Bool.false_ne_true
  | int i =>
    obtain ⟨t, rfl⟩ := rx
    cases y with
    | non => cases ry; exact PySem.EqNone.eq_int_none (fin_bl I q (by simp))
    | int j => obtain ⟨t', rfl⟩ := ry; exact eq_int (fin_bl I q dec_int)
    | str j => obtain ⟨t', rfl⟩ := ry; exact PySem.EqMixed.eq_int_str (fin_bl I q (by simp))
    | _ => exact absurd (show false = true from hs) Bool.false_ne_true
  | str i =>
    obtain ⟨t, rfl⟩ := rx
    cases y with
    | non => cases ry; exact PySem.EqNone.eq_str_none (fin_bl I q (by simp))
    | bl j => cases ry; exact PySem.EqMixed.eq_str_bool (fin_bl I q (by simp))
    | int j => obtain ⟨t', rfl⟩ := ry; exact PySem.EqMixed.eq_str_int (fin_bl I q (by simp))
    | str j => obtain ⟨t', rfl⟩ := ry; exact eq_str (fin_bl I q dec_str)
    | _ => exact absurd (show false = true from hs) Bool.false_ne_true
  | byt i =>
    obtain ⟨t, rfl⟩ := rx
    cases y with
    | byt j => obtain ⟨t', rfl⟩ := ry; exact PySem.W.eq_bytes (fin_bl I q dec_byt)
    | _ => exact absurd (show false = true from hs) Bool.false_ne_true
  | _ => cases y <;> exact absurd (show false = true from hs) Bool.false_ne_true
theorem op_ne : OpR X (compareOp .NotEq) rNe := by
  intro pins s σ H x y v u Q I rx ry h
  obtain ⟨hs, q⟩ := h
  cases x with
  | non =>
    cases rx
    cases y with
    | non => cases ry; exact PySem.EqNone.ne_none_none (fin_bl I q (by simp))
    | bl j => cases ry; exact PySem.EqNone.ne_none_bool (fin_bl I q (by simp))
    | int j => obtain ⟨t', rfl⟩ := ry; exact PySem.EqNone.ne_none_int (fin_bl I q (by simp))
    | str j => obtain ⟨t', rfl⟩ := ry; exact PySem.EqNone.ne_none_str (fin_bl I q (by simp))
    | _ => exact absurd (show false = true from hs) Bool.false_ne_true
  | bl i =>
    cases rx
    cases y with
    | non => cases ry; exact PySem.EqNone.ne_bool_none (fin_bl I q (by simp))
    | bl j => cases ry; exact ne_bool (fin_bl I q (congrArg not dec_bl))
    | str j => obtain ⟨t', rfl⟩ := ry; exact PySem.EqMixed.ne_bool_str (fin_bl I q (by simp))
    | _ => exact absurd (show false = true from hs) Bool.false_ne_true
  | int i =>
    obtain ⟨t, rfl⟩ := rx
    cases y with
    | non => cases ry; exact PySem.EqNone.ne_int_none (fin_bl I q (by simp))
    | int j => obtain ⟨t', rfl⟩ := ry; exact ne_int (fin_bl I q (congrArg not dec_int))
    | str j => obtain ⟨t', rfl⟩ := ry; exact PySem.EqMixed.ne_int_str (fin_bl I q (by simp))
    | _ => exact absurd (show false = true from hs) Bool.false_ne_true
  | str i =>
    obtain ⟨t, rfl⟩ := rx
    cases y with
    | non => cases ry; exact PySem.EqNone.ne_str_none (fin_bl I q (by simp))
    | bl j => cases ry; exact PySem.EqMixed.ne_str_bool (fin_bl I q (by simp))
    | int j => obtain ⟨t', rfl⟩ := ry; exact PySem.EqMixed.ne_str_int (fin_bl I q (by simp))
    | str j => obtain ⟨t', rfl⟩ := ry; exact ne_str (fin_bl I q (congrArg not dec_str))
    | _ => exact absurd (show false = true from hs) Bool.false_ne_true
  | byt i =>
    obtain ⟨t, rfl⟩ := rx
    cases y with
    | byt j => obtain ⟨t', rfl⟩ := ry; exact PySem.W.ne_bytes (fin_bl I q (congrArg not dec_byt))
    | _ => exact absurd (show false = true from hs) Bool.false_ne_true
  | _ => cases y <;> exact absurd (show false = true from hs) Bool.false_ne_true
theorem op_lt : OpR X (compareOp .Lt) (rI0 fun i j => .bl (decide (i < j))) := opB0 fun _ _ _ _ _ _ _ q => lt_int q
theorem op_gt : OpR X (compareOp .Gt) (rI0 fun i j => .bl (decide (j < i))) := opB0 fun _ _ _ _ _ _ _ q => gt_int q
theorem OpR.or {f : Value → Value → Sem Value} {r r' : R2} (h : OpR X f r) (h' : OpR X f r') : OpR X f (fun x y H Q => r x y H Q ∨ r' x y H Q) := by
  intro pins s σ H x y v u Q I rx ry q
  rcases q with q | q
  · exact h pins s σ H x y v u Q I rx ry q
  · exact h' pins s σ H x y v u Q I rx ry q
theorem nomark (b : Expr) {op : CmpOp} (h : op ≠ .In := by decide) (h2 : op ≠ .NotIn := by decide) : behindInMarks op b = false := by
  have e1 : (op == CmpOp.In) = false := by cases op <;> first | rfl | exact absurd rfl h
  have e2 : (op == CmpOp.NotIn) = false := by cases op <;> first | rfl | exact absurd rfl h2
  cases b <;> simp [behindInMarks, e1, e2]
theorem line63 : (sizeLine : Nat) < 2 ^ 63 := by rw [sizeLine_eq]; decide
theorem vals1 {x : V} {us : List Value} (r : Vals [x] us) : ∃ u, us = [u] ∧ RelV x u := by
  cases r with
  | cons r1 r2 => cases r2; exact ⟨_, rfl, r1⟩
theorem vals2 {x y : V} {us : List Value} (r : Vals [x, y] us) : ∃ u w', us = [u, w'] ∧ RelV x u ∧ RelV y w' := by
  cases r with
  | cons r1 r2 =>
    cases r2 with
    | cons r3 r4 => cases r4; exact ⟨_, _, rfl, r1, r3⟩
end
end L2
namespace L2
open PySem PySem.Spec PyProof.Rows
structure ObjM (h : Heap) (x dx C : Addr) (mA : Str → Option Value) : Prop where
  obj : h.get? x = some (PySem.W.instObj C dx)
  ns : h.Ns1 dx mA
  ne : dx ≠ x
theorem lookIn_ns {h : Heap} {dx : Addr} {mA : Str → Option Value} (n : h.Ns1 dx mA) : ∃ od, h.get? dx = some od ∧ ∀ name, PySem.W.lookIn name od = some (mA name) := by
  obtain ⟨o, es, ep, ho, hd, hk, _, hm⟩ := n
  refine ⟨o, ho, fun name => ?_⟩
  have e := hm name
  unfold nsFind findBy at e
  rw [← Array.find?_toList] at e
  unfold PySem.W.lookIn
  rw [hd]
  dsimp only
  split
  · rename_i y q
    rw [q] at e
    exact congrArg some e
  · rename_i q
    rw [q] at e
    have a : es.toList.any (·.refKey) = false := by
      rw [List.any_eq_false]
      intro y hy
      obtain ⟨z, t, hkey⟩ := hk y (Array.mem_toList_iff.mp hy)
      simp [DictEntry.refKey, hkey]
    have a' : ¬ es.toList.any (·.refKey) = true := by rw [a]; exact Bool.false_ne_true
    rw [if_neg a']
    exact congrArg some e
theorem ObjM.look {h : Heap} {x dx C : Addr} {mA : Str → Option Value} (I : ObjM h x dx C mA) : ∃ od, PySem.W.InstAt h x (PySem.W.instObj C dx) C (some od) ∧ ∀ name, PySem.W.lookIn name od = some (mA name) :=
  let ⟨od, ho, hl⟩ := lookIn_ns I.ns
  ⟨od, ⟨I.obj, rfl, rfl, ho⟩, hl⟩
section
variable {prog : Program} {w : World} {A : Around} {E : Value → Shared → Prop} {s : Shared} {K : PySem.W.Frag} {x dx C f : Addr} {mA : Str → Option Value} {name : Str} {v : Value}
end
theorem RelO.none_of {o : Option Value} (r : RelO none o) : o = none := by
  cases o with
  | none => rfl
  | some u => exact (show False from r).elim
section
variable {P : Program} {w : World} {H H' : Hp} {h h' : Heap} {a C dx : Addr} {fs fs' : List (Str × V)}
theorem ins_get (hok : HOk P w H h) (e : H a = some (.ins C dx fs)) : ∃ mA, ObjM h a dx C mA ∧ (∀ f, RelO (fs.lookup f) (mA f)) ∧ PySem.Within mA (fs.map (·.1)) ∧ fs.length ≤ 1000 ∧ H dx = some (.own a) := by
  obtain ⟨d, z, ne, ob, mA, n, r, q⟩ := (show ObjOk P w H h a (.ins C dx fs) from hok a _ e)
  exact ⟨mA, ⟨ob, n, ne⟩, r, q, z, d⟩
end
structure Cls (K : PySem.W.Frag) (C : Addr) : Prop where
  pg : PySem.W.plainGet K C Str.empty = true
  hd : PySem.W.hasDictIn K C = true
  po : PySem.W.plainOver K C = true
  sa : PySem.W.findIn K (.ref C) "__setattr__" = some (some (.builtin "object.__setattr__"))
theorem Cls.get {K : PySem.W.Frag} {C : Addr} (c : Cls K C) (f : Str) : PySem.W.plainGet K C f = true := c.pg
structure Con (K : PySem.W.Frag) (C : Addr) (f : Str) (v : V) (u : Value) : Prop where
  at_ : PySem.W.findIn K (.ref C) f = some (some u)
  rel : RelV v u
  get : PySem.W.specialIn K u "__get__" = some none
  cp : PySem.W.copiedNames.contains f = false
structure Meth (K : PySem.W.Frag) (C : Addr) (m : Str) (f : Addr) : Prop where
  at_ : PySem.W.findIn K (.ref C) m = some (some (.ref f))
  fn : PySem.W.isFn K (.ref f) = true
  kp : PySem.W.keepIn K (.ref f) = true
section
variable {X : Cx} {pins : List (Addr × Obj)} {σ : St} {H : Hp} {s : Shared} {a C dx : Addr} {fs : List (Str × V)} {f : Str} {v : V} {A : Around} {E : Value → Shared → Prop}
theorem Inv.made (I : Inv X pins σ H s) : Inv X pins σ (upd (upd H s.heap.objs.size (.own (s.heap.objs.size + 1))) (s.heap.objs.size + 1) (.ins C s.heap.objs.size []))
    { s with heap := (s.heap.push PySem.W.emptyDict).push (PySem.W.instObj C s.heap.objs.size) } := by
  have e1 : (s.heap.push PySem.W.emptyDict).get? s.heap.objs.size = some PySem.W.emptyDict := Heap.get?_push_size s.heap rfl
  have e2 : ((s.heap.push PySem.W.emptyDict).push (PySem.W.instObj C s.heap.objs.size)).get? (s.heap.objs.size + 1) = some (PySem.W.instObj C s.heap.objs.size) := by
    have := Heap.get?_push_size (s.heap.push PySem.W.emptyDict) (o := PySem.W.instObj C s.heap.objs.size) rfl
    rwa [Heap.size_push] at this
  have e3 : (s.heap.push PySem.W.emptyDict).Ns s.heap.objs.size (fun _ => none) := ⟨PySem.W.emptyDict, #[], _, e1, rfl, (fun e he => absurd he (by simp)), fun _ => rfl⟩
  have I1 := I.laid (a := s.heap.objs.size) (o := .own (s.heap.objs.size + 1)) (h' := s.heap.push PySem.W.emptyDict) (t' := s.toks) (fun b u q => Heap.get?_push_of_some _ q) (Nat.le_refl _) ⟨_, e1⟩
  refine I1.laid (a := s.heap.objs.size + 1) (o := .ins C s.heap.objs.size []) (t' := s.toks) (fun b u q => Heap.get?_push_of_some _ q) (Nat.le_of_eq (Heap.size_push _ _)) ?_
  have ne : s.heap.objs.size ≠ s.heap.objs.size + 1 := Nat.ne_of_lt (Nat.lt_succ_self _)
  refine ⟨by rw [upd_ne ne, upd_same], Nat.zero_le _, ne, e2, fun _ => none, (Heap.Ns1.of_empty e3).at fun o q => Heap.get?_push_of_some _ q, fun _ => True.intro, fun y hy => absurd rfl hy⟩
end
section
variable {X : Cx} {o e value : Expr} {f : Str} {pos pos' tpos : Pos} {ta tv : TE}
end
section
variable {X : Cx} {pins : List (Addr × Obj)} {σ : St} {H : Hp} {s : Shared} {A : Around} {E : Value → Shared → Prop} {Q : Value → Shared → Prop} {c : Value} {b : Bool}
inductive TyOf (K : PySem.W.Frag) (H : Hp) : V → Value → Prop where
  | non : TyOf K H .non (.type "NoneType")
  | bl (x : Bool) : TyOf K H (.bl x) (.type "bool")
  | int (i : Int) : TyOf K H (.int i) (.type "int")
  | str (x : Str) : TyOf K H (.str x) (.type "str")
  | flt (x : UInt64) : TyOf K H (.flt x) (.type "float")
  | lst {a : Addr} {xs : List V} (e : H a = some (.lst xs)) : TyOf K H (.ref a) (.type "list")
  | frz {a : Addr} {o : Obj} {xs : List V} (e : H a = some (.frz o (.lst xs))) : TyOf K H (.ref a) (.type "list")
  | tup {a : Addr} {xs : List V} (e : H a = some (.tup xs)) : TyOf K H (.ref a) (.type "tuple")
  | dK {a : Addr} {kvs : List (Key × V)} (e : H a = some (.dK kvs)) : TyOf K H (.ref a) (.type "dict")
  | dT {a : Addr} {kvs : List (List Key × V)} (e : H a = some (.dT kvs)) : TyOf K H (.ref a) (.type "dict")
  | ins {a C dx : Addr} {fs : List (Str × V)} (e : H a = some (.ins C dx fs)) (cl : Cls K C) (ha : PySem.W.findIn K (.ref C) "__class__" = some (some (.builtin "object.__class__")))
      (hn : PySem.W.specialIn K (.builtin "object.__class__") "__get__" = some (some (.builtin "getset_descriptor.__get__"))) (htk : PySem.W.takesIn K (.builtin "object.__class__") = some true)
      (hm : PySem.W.mroIn K C (.type "object") = some true) : TyOf K H (.ref a) (.ref C)
theorem isinst_ok {x : V} {u t : Value} (I : Inv X pins σ H s) (rx : RelV x u) (ty : TyOf X.K H x t) (e : PySem.W.kitOne X.K t c = some b) (h : ∀ tk, Q (.bool b) { s with toks := tk }) :
    wpAny (model X.prog X.w) A (call (.builtin "isinstance") [u, c]) Q E s := by
  cases ty with
  | non => cases (show u = Value.none from rx); exact PySem.W.kia_one PySem.W.kitx_none I.kIn True.intro e (fun z => nomatch z) h
  | bl y => cases (show u = Value.bool y from rx); exact PySem.W.kia_one PySem.W.kitx_bool I.kIn True.intro e (fun z => nomatch z) h
  | int i => obtain ⟨t, q⟩ := (show ∃ t, u = Value.int i t from rx); cases q; exact PySem.W.kia_one PySem.W.kitx_int I.kIn True.intro e (fun z => nomatch z) h
  | str y => obtain ⟨t, q⟩ := (show ∃ t, u = Value.str y t from rx); cases q; exact PySem.W.kia_one PySem.W.kitx_str I.kIn True.intro e (fun z => nomatch z) h
  | flt y => obtain ⟨t, q⟩ := (show ∃ t, u = Value.float y t from rx); cases q; exact PySem.W.kia_one PySem.W.kitx_float I.kIn True.intro e (fun z => nomatch z) h
  | @lst a xs ea =>
    cases (show u = Value.ref a from rx)
    obtain ⟨_, _, n, _, h1⟩ := (show ObjOk X.prog X.w H s.heap a (.lst xs) from I.hok a _ ea)
    exact PySem.W.kia_one PySem.W.kitx_list I.kIn ⟨_, h1, rfl⟩ e (fun z => nomatch z) h
  | @frz a ob xs ea =>
    cases (show u = Value.ref a from rx)
    obtain ⟨_, _, _, n, _, h1⟩ := (show ObjOk X.prog X.w H s.heap a (.frz ob (.lst xs)) from I.hok a _ ea)
    exact PySem.W.kia_one PySem.W.kitx_list I.kIn ⟨_, h1, rfl⟩ e (fun z => nomatch z) h
  | @tup a xs ea =>
    cases (show u = Value.ref a from rx)
    obtain ⟨_, _, _, p⟩ := (show ObjOk X.prog X.w H s.heap a (.tup xs) from I.hok a _ ea)
    obtain ⟨o, h1, h2, _⟩ := p
    exact PySem.W.kia_one PySem.W.kitx_tuple I.kIn ⟨o, h1, h2⟩ e (fun z => nomatch z) h
  | @dK a kvs ea =>
    cases (show u = Value.ref a from rx)
    obtain ⟨_, _, vs, _, p⟩ := (show ObjOk X.prog X.w H s.heap a (.dK kvs) from I.hok a _ ea)
    obtain ⟨o, es, ep, h1, h2, _⟩ := p
    exact PySem.W.kia_one PySem.W.kitx_dict I.kIn ⟨o, h1, h2.1⟩ e (fun z => nomatch z) h
  | @dT a kvs ea =>
    cases (show u = Value.ref a from rx)
    obtain ⟨_, _, xs, _, o, es, ep, h1, h2, _⟩ := (show ObjOk X.prog X.w H s.heap a (.dT kvs) from I.hok a _ ea)
    exact PySem.W.kia_one PySem.W.kitx_dict I.kIn ⟨o, h1, h2.1⟩ e (fun z => nomatch z) h
  | @ins a C dx fs ea cl ha hn htk hm =>
    cases (show u = Value.ref a from rx)
    obtain ⟨mA, O, _⟩ := ins_get I.hok ea
    obtain ⟨od, J, _⟩ := O.look
    exact PySem.W.kia_one (PySem.W.kitx_own (cl.get _) cl.hd ha hn htk hm) I.kIn J e (fun z => nomatch z) h
end
end L2
namespace L2
open PySem PySem.Spec PyProof.Rows
structure Room (k : Nat) (A : Around) : Prop where
  hd : A.handled = none
  dp : A.depth + 3 * k + 5 < recursionLimit
  un : A.units + 16 * k + 200 < cLine
theorem Room.mono {j k : Nat} {A : Around} (r : Room k A) (h : j ≤ k) : Room j A := ⟨r.hd, by have := r.dp; omega, by have := r.un; omega⟩
theorem Room.deeper {k : Nat} {A : Around} (r : Room (k + 1) A) (env : Env) : Room k (A.deeper env) :=
  ⟨r.hd, by have := r.dp; show A.depth + 1 + 3 * k + 5 < _; omega, by have := r.un; show A.units + 3 + 16 * k + 200 < _; omega⟩
theorem Room.in1 {k : Nat} {A : Around} (r : Room (k + 1) A) : Room k A.in1 :=
  ⟨r.hd, by have := r.dp; show A.depth + 3 * k + 5 < _; omega, by have := r.un; show A.units + 1 + 16 * k + 200 < _; omega⟩
theorem Room.depth {k : Nat} {A : Around} (r : Room k A) : A.depth < recursionLimit := by have := r.dp; omega
theorem Room.units {k : Nat} {A : Around} (r : Room k A) : A.units + 64 < cLine := by have := r.un; omega
def tNil : TA := fun _ H Q => Q [] H
def tCons (ta : TE) (tr : TA) : TA := fun σ H Q => ta σ H fun x H1 => tr σ H1 fun xs H2 => Q (x :: xs) H2
section
variable {X : Cx} {e : Expr} {es : List Expr} {te : TE} {t : TA} {pos : Pos}
theorem pa_nil : PA X [] tNil := fun _ _ _ _ H Q I h => Calls.spliced_nil ⟨[], H, I, .nil, h⟩
theorem pa_cons (ha : PE X e te) (hr : PA X es t) (hs : starEach (e :: es) X.env = (false, eval e X.env) :: starEach es X.env := by rfl) : PA X (e :: es) (tCons te t) := by
  intro pos pins s σ H Q I h
  rw [hs]
  show wpAny _ _ (spliced ((false, eval e X.env) :: backTo pos (starEach es X.env))) _ _ s
  refine Calls.spliced_cons (thn (ha pins s σ H _ I h) fun u s1 ⟨x, H1, I1, r1, q1⟩ => ?_)
  exact thn (hr pos pins s1 σ H1 _ I1 q1) fun us s2 ⟨xs, H2, I2, r2, q2⟩ => ⟨x :: xs, H2, I2, .cons r1 r2, q2⟩
def tTup (t : TA) : TE := fun σ H Q => t σ H fun xs H1 => xs.length ≤ sizeLine ∧ ∀ p, H1 p = none → Q (.ref p) (upd H1 p (.tup xs))
def tLst (t : TA) : TE := fun σ H Q => t σ H fun xs H1 => xs.length ≤ sizeLine ∧ ∀ p, H1 p = none → Q (.ref p) (upd H1 p (.lst xs))
theorem pe_tup {x1} (h : PA X es t) : PE X (.Tuple es x1 pos) (tTup t) := by
  intro pins s σ H Q I hq
  refine wpAny_Tuple_spliced (thn (h pos pins s σ H _ I hq) fun us s1 ⟨xs, H1, I1, r, z, q⟩ => ⟨by rw [← r.length]; exact z, ?_⟩)
  have hf : H1 s1.heap.objs.size = none := I1.hok.fresh (Nat.le_refl _)
  refine ⟨.ref s1.heap.objs.size, upd H1 s1.heap.objs.size (.tup xs), I1.laid (t' := s1.toks) (fun b u e => Heap.get?_push_of_some _ e) (Nat.le_refl _) ?_, rfl, q _ hf⟩
  exact ⟨z, us, r, ⟨_, Heap.get?_push_size _ rfl, rfl, _, rfl⟩⟩
theorem pe_lst (h : PA X es t) : PE X (.List es pos) (tLst t) := by
  intro pins s σ H Q I hq
  refine wpAny_List_spliced (thn (h pos pins s σ H _ I hq) fun us s1 ⟨xs, H1, I1, r, z, q⟩ => ⟨by rw [← r.length]; exact z, ?_⟩)
  have hf : H1 s1.heap.objs.size = none := I1.hok.fresh (Nat.le_refl _)
  refine ⟨.ref s1.heap.objs.size, upd H1 s1.heap.objs.size (.lst xs), I1.laid (t' := s1.toks) (fun b u e => Heap.get?_push_of_some _ e) (Nat.le_refl _) ?_, rfl, q _ hf⟩
  exact ⟨z, us, 0, r, Heap.get?_push_size _ rfl⟩
end
abbrev Sp := List V → Hp → VK → XK → Prop
abbrev CXT := List Env → Hp → Shared → XK → Value → Shared → Prop
structure Env0 (P : Program) (w : World) (K : PySem.W.Frag) (mg : Str → Option Value) (base : Heap) (A : Around) (outer : List Env) (s : Shared) (H : Hp) : Prop where
  frames : A.frames = some outer
  mod : Mod K mg base
  bs : ∀ b o, base.get? b = some o → s.heap.get? b = some o ∧ H b = none
  bsz : base.objs.size ≤ s.heap.objs.size
  funs : s.heap.FunFrames base outer
  frf : ∀ b ∈ frs outer, H b = none
  hok : HOk P w H s.heap
  bare : AllBare s.gens
def CE (outer : List Env) (P : Program) (w : World) (H : Hp) (s : Shared) (Q : VK) (u : Value) (s' : Shared) : Prop :=
  ∃ v H', s'.os = s.os ∧ AllBare s'.gens ∧ Un (frs outer) [] H H' s.heap s'.heap ∧ HOk P w H' s'.heap ∧ RelV v u ∧ Q v H'
def CR (CX : CXT) (outer : List Env) (P : Program) (w : World) (H : Hp) (s : Shared) (Q : VK) (E : XK) (r : Result) (s' : Shared) : Prop :=
  match r with
  | .ok (.ret u) => CE outer P w H s Q u s'
  | .ok _ => False
  | .error e => CX outer H s E e s'
structure FnOk (P : Program) (w : World) (K : PySem.W.Frag) (mg : Str → Option Value) (base : Heap) (CX : CXT) (k : Nat) (f : Addr) (fd : FuncData) (ps : List Str) (sp : Sp) : Prop where
  len : ∀ vs H Q E, sp vs H Q E → vs.length = ps.length
  run : ∀ (A : Around) (outer : List Env) (s : Shared) (H : Hp) (args : Args) (us : List Value) (vs : List V) (Q : VK) (E : XK), Room k A → Env0 P w K mg base A outer s H → BindsTo s fd args (ps.zip us) → Vals vs us → sp vs H Q E →
    codeAny (model P w) A (.call (.ref f) args) (CR CX outer P w H s Q E) s
theorem FnOk.mono {P : Program} {w : World} {K : PySem.W.Frag} {mg : Str → Option Value} {base : Heap} {CX : CXT} {j k : Nat} {f : Addr} {fd : FuncData} {ps : List Str} {sp : Sp} (F : FnOk P w K mg base CX j f fd ps sp) (h : j ≤ k) :
    FnOk P w K mg base CX k f fd ps sp := ⟨F.len, fun A outer s H args us vs Q E hr => F.run A outer s H args us vs Q E (hr.mono h)⟩
theorem FnOk.imp {P : Program} {w : World} {K : PySem.W.Frag} {mg : Str → Option Value} {base : Heap} {CX : CXT} {k : Nat} {f : Addr} {fd : FuncData} {ps : List Str} {sp sp' : Sp} (F : FnOk P w K mg base CX k f fd ps sp)
    (h : ∀ vs H Q E, sp' vs H Q E → sp vs H Q E) : FnOk P w K mg base CX k f fd ps sp' :=
  ⟨fun vs H Q E q => F.len vs H Q E (h _ _ _ _ q), fun A outer s H args us vs Q E hr he hb hv hs => F.run A outer s H args us vs Q E hr he hb hv (h _ _ _ _ hs)⟩
theorem Env0.in1 {P : Program} {w : World} {K : PySem.W.Frag} {mg : Str → Option Value} {base : Heap} {A : Around} {outer : List Env} {s : Shared} {H : Hp} (e : Env0 P w K mg base A outer s H) :
    Env0 P w K mg base A.in1 outer s H := ⟨e.frames, e.mod, e.bs, e.bsz, e.funs, e.frf, e.hok, e.bare⟩
section
variable {X : Cx} {pins : List (Addr × Obj)} {σ : St} {H : Hp} {s s' : Shared}
theorem Inv.env0 (I : Inv X pins σ H s) : Env0 X.prog X.w X.K X.mg X.base X.A X.stack s H :=
  ⟨I.ok.frames, I.ok.mod, I.bs, Nat.le_trans I.ok.bsz I.sz, I.stack, I.stkFree, I.hok, I.bare⟩
theorem Inv.after {Q : VK} {u : Value} (I : Inv X pins σ H s) (h : CE X.stack X.prog X.w H s Q u s') : EP X pins σ Q u s' := by
  obtain ⟨v, H', os, bare, un, hok, r, q⟩ := h
  obtain ⟨hh, g, d, t, os'⟩ := s'
  obtain rfl : os' = s.os := os
  exact ⟨v, H', I.call (h' := hh) (g' := g) (d' := d) (t' := t) (ch := []) un hok bare (fun b z => absurd z (by simp)), r, q⟩
end
def tCall (sp : Sp) (dvs : List V) (E : XK) (t : TA) : TE := fun σ H Q => t σ H fun vs H1 => sp (vs ++ dvs) H1 Q E
def Binds (K : PySem.W.Frag) (fd : FuncData) (ps : List Str) (ds : List Value) : Prop :=
  ∀ (s : Shared) (us : List Value), K.In s.heap → (us ++ ds).length = ps.length → BindsTo s fd ⟨us, []⟩ (ps.zip (us ++ ds))
theorem Binds.all {K : PySem.W.Frag} {fd : FuncData} {ps : List Str} (h : ∀ us : List Value, us.length = ps.length → bindArgs fd ⟨us, []⟩ = pure (ps.zip us)) : Binds K fd ps [] := fun s us _ hl => by
  rw [List.append_nil] at hl ⊢
  exact .of_eq (h us hl)
def Passes (CX : CXT) (X : Cx) (E : XK) : Prop := ∀ (pins : List (Addr × Obj)) (σ : St) (H : Hp) (s : Shared) (e : Value) (s' : Shared), Inv X pins σ H s → CX X.stack H s E e s' → X.xe e s'
section
variable {X : Cx} {CX : CXT} {k : Nat} {f C : Addr} {fd : FuncData} {ps : List Str} {sp : Sp} {dvs : List V} {ds : List Value} {E : XK} {x m : Str} {p pos apos : Pos} {e o : Expr} {es : List Expr} {ta : TE} {t : TA}
theorem run_fn {pins : List (Addr × Obj)} {σ : St} {H : Hp} {s : Shared} {Q : VK} {us : List Value} {vs : List V} (F : FnOk X.prog X.w X.K X.mg X.base CX k f fd ps sp) (hr : Room k X.A) (hb : Binds X.K fd ps ds) (hd : Vals dvs ds) (hx : Passes CX X E)
    (I : Inv X pins σ H s) (r : Vals vs us) (h : sp (vs ++ dvs) H Q E) : wpAny (model X.prog X.w) X.A (call (.ref f) us) (EP X pins σ Q) X.xe s := by
  have r2 : Vals (vs ++ dvs) (us ++ ds) := r.append hd
  have hl : (us ++ ds).length = ps.length := by rw [← r2.length]; exact F.len _ _ _ _ h
  refine wpAny_call (codeAny_mono (F.run X.A X.stack s H ⟨us, []⟩ (us ++ ds) (vs ++ dvs) Q E hr I.env0 (hb s us I.kIn hl) r2 h) fun r s' hq => ?_)
  cases r with
  | error e => exact hx pins σ H s e s' I hq
  | ok fl =>
    cases fl with
    | ret u => exact I.after hq
    | next => exact False.elim hq
    | brk => exact False.elim hq
    | cont => exact False.elim hq
theorem pe_call (F : FnOk X.prog X.w X.K X.mg X.base CX k f fd ps sp) (hr : Room k X.A) (hg : Gl X x) (hm : X.mg x = some (.ref f)) (hk : PySem.W.keepIn X.K (.ref f) = true) (hb : Binds X.K fd ps ds) (hd : Vals dvs ds) (hx : Passes CX X E)
    (ha : PA X (e :: es) t) (hdb : (x == ("__debug__" : Str)) = false := by decide) (he : starEach (e :: es) X.env = (false, eval e X.env) :: starEach es X.env := by rfl) (hpl : (backTo pos (starEach es X.env)).any (·.1) = false := by rfl) :
    PE X (.Call (.Name x p) (e :: es) [] pos) (tCall sp dvs E t) := by
  intro pins s σ H Q I h
  refine wpAny_Call_Name_kw (ld_glob I hg hm ?_ hdb)
  refine PySem.W.callWith_K (h₀ := X.base) I.ok.mod.kin hk (thn (ha pos pins s σ H _ I h) fun us s1 ⟨vs, H1, I1, r, q⟩ => ⟨I1.kIn, ?_⟩) he hpl
  exact run_fn F hr hb hd hx I1 r q
structure Mk (K : PySem.W.Frag) (C f : Addr) : Prop where
  makes : PySem.W.makesIn K C = true
  init : PySem.W.findIn K (.ref C) "__init__" = some (some (.ref f))
  fn : PySem.W.isFn K (.ref f) = true
  kp : PySem.W.keepIn K (.ref C) = true
end
section
variable {X : Cx} {CX : CXT} {k : Nat} {f C : Addr} {fd : FuncData} {ps ks : List Str} {sp : Sp} {E : XK} {x m : Str} {p pos apos kpos : Pos} {e o : Expr} {es : List Expr} {kws : List Keyword} {te ta : TE} {t tk : TA} {nm : Option Str}
structure KBinds (K : PySem.W.Frag) (fd : FuncData) (ps ks : List Str) (g : List Value → List Value → List Value) (gV : List V → List V → List V) : Prop where
  to : ∀ (s : Shared) (us ws : List Value), K.In s.heap → (g us ws).length = ps.length → BindsTo s fd ⟨us, ks.zip ws⟩ (ps.zip (g us ws))
  rel : ∀ {vs : List V} {us : List Value} {zs : List V} {ws : List Value}, Vals vs us → Vals zs ws → Vals (gV vs zs) (g us ws)
variable {g : List Value → List Value → List Value} {gV : List V → List V → List V}
end
structure FnScope (N P : List Str) (sc : Scope) : Prop where
  kind : sc.kind = .function
  co : sc.isCoroutine = false
  gen : sc.isGenerator = false
  nd : N.Nodup
  pre : N.take P.length = P
  par : ∀ x ∈ P, sc.names.lookup x = some .local ∨ sc.names.lookup x = some .cell
  nofree : ∀ y ∈ sc.names, y.2 ≠ .free
theorem bindL_out {kindOf : Str → Option NameKind} {x : Str} : ∀ {binds : List (Str × Value)} {m : Str → Option Value}, (∀ v, (x, v) ∉ binds) → bindL kindOf binds m x = m x
  | [], _, _ => rfl
  | (n, v) :: r, m, h => by
    unfold bindL
    rw [bindL_out fun w hw => h w (List.mem_cons_of_mem _ hw)]
    split
    · have : x ≠ n := by rintro rfl; exact h v List.mem_cons_self
      simp [this]
    · rfl
theorem bindC_out {kindOf : Str → Option NameKind} {x : Str} : ∀ {binds : List (Str × Value)} {m : Str → Option Value}, (∀ v, (x, v) ∉ binds) → bindC kindOf binds m x = m x
  | [], _, _ => rfl
  | (n, v) :: r, m, h => by
    unfold bindC
    rw [bindC_out fun w hw => h w (List.mem_cons_of_mem _ hw)]
    split
    · rfl
    · have : x ≠ n := by rintro rfl; exact h v List.mem_cons_self
      simp [this]
theorem bindL_get {kindOf : Str → Option NameKind} {x : Str} {v : Value} : ∀ {P : List Str} {vs : List Value} {i : Nat} {m : Str → Option Value}, P.Nodup → P[i]? = some x → vs[i]? = some v → kindOf x = some .local →
    bindL kindOf (P.zip vs) m x = some v
  | [], _, _, _, _, h, _, _ => by simp at h
  | _ :: _, [], _, _, _, _, h, _ => by simp at h
  | p :: P, w :: vs, 0, m, nd, h1, h2, hk => by
    simp at h1 h2; subst h1; subst h2
    show bindL kindOf ((p, w) :: P.zip vs) m p = _
    unfold bindL
    rw [bindL_out fun v hv => (List.nodup_cons.mp nd).1 (List.of_mem_zip hv).1, if_pos hk]
    simp
  | p :: P, w :: vs, i + 1, m, nd, h1, h2, hk => by
    show bindL kindOf ((p, w) :: P.zip vs) m x = _
    unfold bindL
    exact bindL_get (i := i) (List.nodup_cons.mp nd).2 (by simpa using h1) (by simpa using h2) hk
theorem bindC_get {kindOf : Str → Option NameKind} {x : Str} {v : Value} : ∀ {P : List Str} {vs : List Value} {i : Nat} {m : Str → Option Value}, P.Nodup → P[i]? = some x → vs[i]? = some v → kindOf x ≠ some .local →
    bindC kindOf (P.zip vs) m x = some v
  | [], _, _, _, _, h, _, _ => by simp at h
  | _ :: _, [], _, _, _, _, h, _ => by simp at h
  | p :: P, w :: vs, 0, m, nd, h1, h2, hk => by
    simp at h1 h2; subst h1; subst h2
    show bindC kindOf ((p, w) :: P.zip vs) m p = _
    unfold bindC
    rw [bindC_out fun v hv => (List.nodup_cons.mp nd).1 (List.of_mem_zip hv).1, if_neg hk]
    simp
  | p :: P, w :: vs, i + 1, m, nd, h1, h2, hk => by
    show bindC kindOf ((p, w) :: P.zip vs) m x = _
    unfold bindC
    exact bindC_get (i := i) (List.nodup_cons.mp nd).2 (by simpa using h1) (by simpa using h2) hk
def start (N : List Str) (vs : List V) : St := vs.map some ++ List.replicate (N.length - vs.length) none
def cxOf (CX : CXT) (P : Program) (w : World) (K : PySem.W.Frag) (mg : Str → Option Value) (base : Heap) (N : List Str) (qual : Str) (scope : Scope) (f : Addr) (cd : Value) (A : Around) (outer : List Env) (s : Shared) (H : Hp) (E : XK) : Cx where
  prog := P
  w := w
  K := K
  mg := mg
  base := base
  A := A.deeper (envOfC qual scope s.heap.objs.size f cd)
  N := N
  s₀ := s
  H₀ := H
  env := envOfC qual scope s.heap.objs.size f cd
  outer := outer
  stack := envOfC qual scope s.heap.objs.size f cd :: outer
  ex := []
  calm := true
  fn := fun _ => true
  pn := []
  xe := fun e s' => wpAny (model P w) (A.deeper (envOfC qual scope s.heap.objs.size f cd)) (leaving (envOfC qual scope s.heap.objs.size f cd) e) (fun _ s'' => CX outer H s E e s'') (fun e' s'' => CX outer H s E e' s'') s'
theorem cell_has {sc : Scope} {n : Nat} {x : Str} (h : sc.names.lookup x = some .cell) : ∃ c, (cellsFrom n sc.names []).lookup x = some c := by
  have q := PySem.W.cellsFrom_some sc.names n [] (.inl h)
  exact Option.isSome_iff_exists.mp q
theorem inv_start {CX : CXT} {P : Program} {w : World} {K : PySem.W.Frag} {mg : Str → Option Value} {base : Heap} {N ps : List Str} {qual : Str} {scope : Scope} {f : Addr} {cd : Value} {A : Around} {outer : List Env} {s s1 : Shared} {H : Hp} {E : XK} {us : List Value} {vs : List V}
    (S : FnScope N ps scope) (hd : A.handled = none) (e0 : Env0 P w K mg base A outer s H) (hl : vs.length = ps.length) (r : Vals vs us)
    (x : InCallC s s.heap.objs.size (bindL (envOfC qual scope s.heap.objs.size f cd).kindOf (ps.zip us) fun _ => none) (cellsFrom (s.heap.objs.size + 1) scope.names []) (bindC (envOfC qual scope s.heap.objs.size f cd).kindOf (ps.zip us) fun _ => none) s1) :
    Inv (cxOf CX P w K mg base N qual scope f cd A outer s H E) [] (start N vs) H s1 := by
  have hpl : ps.length ≤ N.length := by have := congrArg List.length S.pre; rw [List.length_take] at this; omega
  obtain ⟨h1, tk, rfl, hk⟩ := x.done
  have noA : ∀ b : Addr, b ∉ (cxOf CX P w K mg base N qual scope f cd A outer s H E).ex := fun b z => absurd (show b ∈ ([] : List Addr) from z) (by simp)
  refine ⟨⟨e0.mod, S.kind, rfl, rfl, Nat.le_refl _, fun y z c h1 h2 => ?_, fun y hy => ?_, fun y c _ h => ?_, fun _ => hd, Around.frames_deeper e0.frames, .inr ⟨rfl, rfl⟩, fun b z => absurd z (noA b), e0.bs, e0.bsz, fun b _ _ => noA b, fun b z => absurd z (noA b), e0.funs, e0.frf⟩,
    rfl, e0.bare, Un.kept hk, ⟨_, x.toInCall.ns, fun i y v h1 h2 h3 => ?_⟩, fun y c h => ⟨_, x.cell y c h⟩, e0.hok.fresh (Nat.le_refl _), fun y c h => ?_, fun p hp => absurd (show p ∈ ([] : List (Addr × Obj)) from hp) (by simp), e0.hok.kept hk, ?_⟩
  · exact name_of_addr x.apart (PySem.mem_of_lookup h1) (PySem.mem_of_lookup h2)
  · have hy : scope.names.lookup y = some .cell ∨ scope.names.lookup y = some .free := hy
    rcases hy with hy | hy
    · exact cell_has hy
    · exact absurd rfl (S.nofree _ (PySem.mem_of_lookup hy))
  · exact Nat.le_of_lt (x.above y c (PySem.mem_of_lookup h))
  · have hi : i < vs.length := by
      unfold start at h2
      by_cases hi : i < vs.length
      · exact hi
      · rw [List.getElem?_append_right (by simpa using hi)] at h2
        rw [List.getElem?_replicate] at h2
        split at h2 <;> cases h2
    have ha : vs[i]? = some v := by
      unfold start at h2
      rw [List.getElem?_append_left (by simpa using hi), List.getElem?_map] at h2
      cases e : vs[i]? with
      | none => rw [e] at h2; cases h2
      | some a => rw [e] at h2; cases h2; rfl
    obtain ⟨u, hu, rv⟩ := r.get ha
    have hp : ps[i]? = some y := by
      rw [← S.pre, List.getElem?_take_of_lt (by omega)]; exact h1
    have ndP : ps.Nodup := by rw [← S.pre]; exact S.nd.sublist (List.take_sublist _ _)
    refine ⟨u, rv, ?_⟩
    rcases S.par y (List.mem_of_getElem? hp) with k | k
    · exact .inl ⟨k, bindL_get ndP hp hu k⟩
    · obtain ⟨c, e⟩ := cell_has (n := s.heap.objs.size + 1) k
      refine .inr ⟨.inl k, c, e, ?_⟩
      have q := x.cell y c e
      rw [bindC_get ndP hp hu (by show scope.names.lookup y ≠ _; rw [k]; decide)] at q
      exact q
  · exact e0.hok.fresh (Nat.le_of_lt (x.above y c (PySem.mem_of_lookup h)))
  · unfold start
    show _ = N.length
    rw [List.length_append, List.length_map, List.length_replicate]
    omega
theorem fn_of {CX : CXT} {P : Program} {w : World} {K : PySem.W.Frag} {mg : Str → Option Value} {base : Heap} {k : Nat} {f : Addr} {name qual : Str} {params : Arguments} {body : List Stmt} {scope : Scope} {dV kV doc pm cdv ct oc : Value} {an od : Option Addr}
    {osl : Array (Option Value)} {N ps : List Str} {sp : Sp} (lk : K.lookup f = some ⟨oc, od, .func (PySem.W.fnOf name qual params body scope dV kV doc pm an cdv ct), osl⟩) (hcd : PySem.W.codeIn K cdv qual = true) (S : FnScope N ps scope)
    (len : ∀ vs H Q E, sp vs H Q E → vs.length = ps.length)
    (hbody : ∀ (A : Around) (outer : List Env) (s : Shared) (H : Hp) (vs : List V) (Q : VK) (E : XK), Room k (A.deeper (envOfC qual scope s.heap.objs.size f cdv)) → sp vs H Q E →
      ∃ t, PSs (cxOf CX P w K mg base N qual scope f cdv A outer s H E) body t ∧ t { nx := fun _ H' => Q .non H', rt := Q } (start N vs) H) :
    FnOk P w K mg base CX (k + 1) f (PySem.W.fnOf name qual params body scope dV kV doc pm an cdv ct) ps sp := by
  refine ⟨len, fun A outer s H args us vs Q E hr e0 hb r hsp => ?_⟩
  have hl := len _ _ _ _ hsp
  have KX : K.In s.heap := e0.mod.kin.keeps fun b o e => (e0.bs b o e).1
  have lim : s.heap.NoLimit := e0.mod.nolimit.keeps fun b o e => (e0.bs b o e).1
  have hkind : ∀ y ∈ ps.zip us, scope.names.lookup y.1 = some .local ∨ (scope.names.lookup y.1 = some .cell ∧ ((cellsFrom (s.heap.objs.size + 1) scope.names []).lookup y.1).isSome = true) := fun ⟨n, v⟩ hy => by
    rcases S.par n (List.of_mem_zip hy).1 with q | q
    · exact .inl q
    · exact .inr ⟨q, PySem.W.cellsFrom_some _ _ _ (.inl q)⟩
  refine codeAny_call_function hr.depth (KX _ _ lk) rfl S.co S.gen rfl (PySem.W.codeRec_of KX hcd) (hb _ _ _ _ ?_)
  refine wpAny_newFunctionEnv_cells S.kind hkind fun env he s1 x => ?_
  subst he
  refine ⟨lim.keeps x.toInCall.keep, codeAny_func ?_⟩
  obtain ⟨t, ht, hq⟩ := hbody A outer s H vs Q E (hr.deeper _) hsp
  have I : Inv (cxOf CX P w K mg base N qual scope f cdv A outer s H E) [] (start N vs) H s1 := inv_start S hr.hd e0 hl r x
  refine wpAny_mono (ht [] s1 (start N vs) H _ I hq) (fun fl s' hs => ?_) fun e s' hs => hs
  have fin : ∀ {σ' : St} {H' : Hp} {v : V} {u : Value}, Inv (cxOf CX P w K mg base N qual scope f cdv A outer s H E) [] σ' H' s' → RelV v u → Q v H' → CE outer P w H s Q u s' :=
    fun {σ' H' v u} J rv q => ⟨v, H', J.os, J.bare, J.base, J.hok, rv, q⟩
  cases fl with
  | ret u =>
    obtain ⟨v, σ', H', J, rv, q⟩ := hs
    exact fin J rv q
  | next =>
    obtain ⟨σ', H', J, q⟩ := hs
    exact fin (v := V.non) (u := Value.none) J rfl q
  | brk =>
    obtain ⟨_, _, _, q⟩ := hs
    exact False.elim q
  | cont =>
    obtain ⟨_, _, _, q⟩ := hs
    exact False.elim q
end L2
namespace L2
open PySem PySem.Spec PyProof.Rows
section
variable {X : Cx} {x : Str} {p pos : Pos} {e : Expr} {es : List Expr} {t : TA} {id T : String} {r : List V → Hp → VK → Prop}
end
end L2
namespace HT
open PySem PyProof.Rows
def lexLt : List Int → List Int → Bool
  | [], [] => false
  | [], _ :: _ => true
  | _ :: _, [] => false
  | x :: xs, y :: ys => if x = y then lexLt xs ys else decide (x < y)
theorem lexLt_cons (x y : Int) (xs ys : List Int) : lexLt (x :: xs) (y :: ys) = if x = y then lexLt xs ys else decide (x < y) := rfl
theorem lexLt_nil_nil : lexLt [] [] = false := rfl
theorem lexLt_nil_cons (y : Int) (ys : List Int) : lexLt [] (y :: ys) = true := rfl
theorem lexLt_cons_nil (x : Int) (xs : List Int) : lexLt (x :: xs) [] = false := rfl
theorem eqAt_int (A : Around) (s : Shared) (a : Int) (t : Tok) (c : Int) (u : Tok) : ∃ e, SeqAt.EqAt A s (.int a t) (.int c u) e ∧ (e = true ↔ a = c) :=
  ⟨(a == c), SeqAt.EqAt.int_int a t c u, by simp⟩
theorem rcLt_int (A : Around) (s : Shared) (a : Int) (t : Tok) (c : Int) (u : Tok) (prog : Program) (w : World) (E : Value → Shared → Prop) (Q : Value → Shared → Prop) (h : Q (.bool (decide (a < c))) s) :
    wpAny (model prog w) A (richCompare .Lt (.int a t) (.int c u)) Q E s :=
  (PyProof.Rows.lt_int h : wpAny (model prog w) A (compareOp .Lt (.int a t) (.int c u)) Q E s)
section
open PySem.SeqAt
open PySem.AutoSeq1 (wpAny_loadPart')
open PySem.MeetsSeq PySem.MeetsSeq2 PySem.MeetsSeq3
theorem tuple_lt_ints (l b : Addr) (items items2 : Array Value) (n n2 : Nat) (dd dd2 : Option Addr) (sl sl2 : Array (Option Value)) (ns ms : List Int) (hi : IntsAre items.toList ns) (hj : IntsAre items2.toList ms) :
    Meets (Builtin.«tuple.__lt__» ⟨[.ref l, .ref b], []⟩)
      (fun _ R s => s.heap.get? l = some { cls := .type "tuple", dict := dd, data := .seq items n, slots := sl } ∧ s.heap.get? b = some { cls := .type "tuple", dict := dd2, data := .seq items2 n2, slots := sl2 } ∧
        R (.ok (.ret (.bool (lexLt ns ms)))) s) :=
  .of_wp fun prog w A R s h => by
    obtain ⟨hp, g, d, tk, os⟩ := s; obtain ⟨hl, hb, h⟩ := h
    have f2 := AutoSeq1.sub_tuple_tuple
    have z1 : items.size = ns.length := by rw [← hi.length]; simp
    have z2 : items2.size = ms.length := by rw [← hj.length]; simp
    wp_walk using wpAny_loadPart' hl, wpAny_loadPart' hb, wpAny_forIn_list _ (fun rest b s' => b.1 = none ∧ s' = ⟨hp, g, d, tk, os⟩ ∧ ∃ (vs ws : List Value) (ns' ms' : List Int), rest = vs.zip ws ∧
      IntsAre vs ns' ∧ IntsAre ws ms' ∧ ns'.length + items2.size = ms'.length + items.size ∧ R (.ok (.ret (.bool (lexLt ns' ms')))) ⟨hp, g, d, tk, os⟩) _
    case turn =>
      rintro ⟨y, x⟩ rest b s' ⟨hb', rfl, vs, ws, ns', ms', hz, hvi, hwi, hlen, hR⟩
      cases hvi with
      | nil => rw [List.zip_nil_left] at hz; cases hz
      | cons a t hvi' =>
        cases hwi with
        | nil => rw [List.zip_nil_right] at hz; cases hz
        | cons c u hwi' =>
          rw [List.zip_cons_cons] at hz
          injection hz with hyx hrest
          injection hyx with hy hx
          subst hy hx
          rw [lexLt_cons] at hR
          simp only [List.length_cons] at hlen
          obtain ⟨e, he, hiff⟩ := eqAt_int A.in1 ⟨hp, g, d, tk, os⟩ a t c u
          refine wpAny_bind (he prog w _ _ ?_)
          cases e with
          | true =>
            rw [if_pos (hiff.mp rfl)] at hR
            wp_walk
            exact ⟨rfl, rfl, _, _, _, _, hrest, hvi', hwi', by omega, hR⟩
          | false =>
            rw [if_neg (fun q => absurd (hiff.mpr q) Bool.false_ne_true)] at hR
            have hri := rcLt_int A.in1 ⟨hp, g, d, tk, os⟩ a t c u prog w
            wp_walk using hri
            exact ⟨_, rfl, by simpa using hR⟩
    case fin =>
      rintro ⟨b1, b2⟩ s' ⟨hb', rfl, vs, ws, ns', ms', hz, hvi, hwi, hlen, hR⟩
      simp only at hb'
      subst hb'
      have hv : lexLt ns' ms' = decide (items.size < items2.size) := by
        cases hvi with
        | nil =>
          cases hwi with
          | nil =>
            simp only [List.length_nil] at hlen
            rw [lexLt_nil_nil]
            exact (decide_eq_false (by omega)).symm
          | cons c u hw =>
            simp only [List.length_nil, List.length_cons] at hlen
            rw [lexLt_nil_cons]
            exact (decide_eq_true (by omega)).symm
        | cons a t hv =>
          cases hwi with
          | nil =>
            simp only [List.length_nil, List.length_cons] at hlen
            rw [lexLt_cons_nil]
            exact (decide_eq_false (by omega)).symm
          | cons c u hw =>
            rw [List.zip_cons_cons] at hz
            cases hz
      rw [hv] at hR
      wp_walk
      exact ⟨_, rfl, by simpa [Builtin.Tuple.tupleCompareSizes] using hR⟩
    case h =>
      exact ⟨rfl, rfl, items.toList, items2.toList, ns, ms, rfl, hi, hj, by omega, h⟩
end
section
variable {prog : Program} {w : World} {A : Around} {E : Value → Shared → Prop} {s : Shared}
theorem lt_tupInts {l b : Addr} {items items2 : Array Value} {ns ms : List Int} {Q : Value → Shared → Prop} (hl : IsTup s.heap l items) (hb : IsTup s.heap b items2) (hi : IntsAre items.toList ns) (hj : IntsAre items2.toList ms)
    (hu : A.units < cLine) (h : Q (.bool (lexLt ns ms)) s) : wpAny (model prog w) A (compareOp .Lt (.ref l) (.ref b)) Q E s := by
  obtain ⟨⟨cls, dd, data, sl⟩, ho, hc, n, hd⟩ := id hl
  obtain ⟨⟨cls2, dd2, data2, sl2⟩, ho2, hc2, n2, hd2⟩ := id hb
  simp only at hc hd hc2 hd2
  subst hc hd hc2 hd2
  exact richCompare_meets_room (op := .Lt) ⟨_, ho, rfl⟩ ⟨_, ho2, rfl⟩ PySem.F.slot_tuple_lt PySem.F.entry_tuple_lt (PySem.F.args_tuple_lt_2 _ _) (tuple_lt_ints l b items items2 n n2 dd dd2 sl sl2 ns ms hi hj)
    ⟨ho, ho2, show Value.bool (lexLt ns ms) ≠ Value.notImplemented ∧ Q (.bool (lexLt ns ms)) s from ⟨(fun x => nomatch x), h⟩⟩ hu
def sIx (n d : Nat) : Option Int → Nat
  | none => d
  | some v => if v < 0 then (v + (n : Int)).toNat else min v.toNat n
end
end HT
namespace L2
open PySem PySem.Spec PyProof.Rows
abbrev TO := St → Hp → (Option Int → Hp → Prop) → Prop
def PO (X : Cx) (e : Option Expr) (t : TO) : Prop :=
  ∀ (pins : List (Addr × Obj)) (s : Shared) (σ : St) (H : Hp) (Q : Option Int → Hp → Prop), Inv X pins σ H s → t σ H Q →
    wpAny (model X.prog X.w) X.A (evalPart e X.env) (fun u s' => ∃ o H', Inv X pins σ H' s' ∧ IsPart u o ∧ Q o H') X.xe s
def tPart (t : TE) : TO := fun σ H Q => t σ H fun x H1 => ∃ i, x = .int i ∧ Q (some i) H1
theorem intsAre_of {ns : List Int} : ∀ {us : List Value}, Vals (ns.map V.int) us → IntsAre us ns := by
  induction ns with
  | nil => intro us r; rw [List.map_nil] at r; cases r; exact .nil
  | cons n ns ih =>
    intro us r
    rw [List.map_cons] at r
    cases r with
    | cons r1 r2 =>
      obtain ⟨t, e⟩ := r1
      subst e
      exact .cons n t (ih r2)
section
variable {X : Cx} {e : Expr} {te : TE} {lo hi : Option Expr} {tl th : TO} {pos p2 : Pos}
theorem po_some (h : PE X e te) : PO X (some e) (tPart te) := by
  intro pins s σ H Q I hw
  rw [evalPart_some]
  refine thn (h pins s σ H _ I hw) fun u s1 ⟨x, H1, I1, r1, q1⟩ => ?_
  obtain ⟨i, rfl, q⟩ := q1
  obtain ⟨t, rfl⟩ := r1
  exact ⟨some i, H1, I1, .int i t, q⟩
def SlR (X : Cx) (r : V → Option Int → Option Int → Hp → VK → Prop) : Prop :=
  ∀ (pins : List (Addr × Obj)) (s : Shared) (σ : St) (H : Hp) (x : V) (v vl vu : Value) (lo hi : Option Int) (sl : Addr) (Q : VK), Inv X pins σ H s → RelV x v → s.heap.IsSliceOf sl vl vu .none → IsPart vl lo → IsPart vu hi → r x lo hi H Q →
    ∃ T id, typeLookup (.type T) "__getitem__" = pure (some (.builtin id)) ∧ s.TypeIs v T ∧ wpAny (model X.prog X.w) X.A (getItem v (.ref sl)) (EP X pins σ Q) X.xe s
theorem SlR.or {r r' : V → Option Int → Option Int → Hp → VK → Prop} (h : SlR X r) (h' : SlR X r') : SlR X (fun x lo hi H Q => r x lo hi H Q ∨ r' x lo hi H Q) := by
  intro pins s σ H x v vl vu lo hi sl Q I rx hs pl pu q
  rcases q with q | q
  · exact h pins s σ H x v vl vu lo hi sl Q I rx hs pl pu q
  · exact h' pins s σ H x v vl vu lo hi sl Q I rx hs pl pu q
def tSl (r : V → Option Int → Option Int → Hp → VK → Prop) (te : TE) (tl th : TO) : TE := fun σ H Q => te σ H fun x H1 => tl σ H1 fun l H2 => th σ H2 fun u H3 => r x l u H3 Q
theorem pe_slice {r : V → Option Int → Option Int → Hp → VK → Prop} (hr : SlR X r) (he : PE X e te) (hl : PO X lo tl) (hu : PO X hi th) : PE X (.Subscript e (.Slice lo hi none p2) pos) (tSl r te tl th) := by
  intro pins s σ H Q I h
  refine Subscript_ (thn (he pins s σ H _ I h) fun v s1 ⟨x, H1, I1, r1, q1⟩ => ?_)
  refine wpAny_Slice (thn (hl pins s1 σ H1 _ I1 q1) fun vl s2 ⟨l, H2, I2, pl, q2⟩ => thn (hu pins s2 σ H2 _ I2 q2) fun vu s3 ⟨u, H3, I3, pu, q3⟩ => ?_)
  rw [evalPart_none]
  refine wpAny_pure ?_
  have I4 : Inv X pins σ H3 { s3 with heap := s3.heap.push { cls := .type "slice", data := .fields #[vl, vu, .none] } } := I3.kept (t' := s3.toks) fun b ob q => Heap.get?_push_of_some _ q
  obtain ⟨T, id, hT, ht, hg⟩ := hr pins { s3 with heap := s3.heap.push { cls := .type "slice", data := .fields #[vl, vu, .none] } } σ H3 x v vl vu l u s3.heap.objs.size Q I4 r1 (Heap.IsSliceOf.new ..) pl pu q3
  show wpAny (model X.prog X.w) X.A (subscriptTail e (.Slice lo hi none p2) v (.ref s3.heap.objs.size)) (EP X pins σ Q) X.xe { s3 with heap := s3.heap.push { cls := .type "slice", data := .fields #[vl, vu, .none] } }
  exact tail_any (ops := [.ref s3.heap.objs.size, v]) ht hT hg (by with_unfolding_all rfl)
def cutV (xs : List V) (lo hi : Option Int) : List V := (xs.drop (HT.sIx xs.length 0 lo)).take (HT.sIx xs.length xs.length hi - HT.sIx xs.length 0 lo)
theorem cutV_length (xs : List V) (lo hi : Option Int) : (cutV xs lo hi).length ≤ xs.length := by
  unfold cutV
  rw [List.length_take, List.length_drop]
  omega
def rLtT (K : PySem.W.Frag) : R2 := fun x y H Q => ∃ a b ns ms, x = .ref a ∧ y = .ref b ∧ SqT K H a (ns.map V.int) ∧ SqT K H b (ms.map V.int) ∧ Q (.bl (HT.lexLt ns ms)) H
end
end L2
namespace L2
open PySem PySem.Spec PyProof.Rows
def ixN (n : Nat) (i : Int) : Option Nat := if 0 ≤ i then (if i < n then some i.toNat else none) else if -(n : Int) ≤ i then some (i + n).toNat else none
def atI {α : Type} (xs : List α) (i : Int) : Option α := (ixN xs.length i).bind fun j => xs[j]?
theorem ixN_seq {n : Nat} {i : Int} {j : Nat} (h : ixN n i = some j) : seqIndex? i n = some j ∧ j < n ∧ -(n : Int) ≤ i ∧ i < n := by
  unfold ixN at h
  by_cases h0 : 0 ≤ i
  · rw [if_pos h0] at h
    by_cases h1 : i < n
    · rw [if_pos h1] at h
      have e : i.toNat = j := Option.some.inj h
      exact ⟨by rw [seqIndex_of h0 h1, e], by omega, by omega, h1⟩
    · rw [if_neg h1] at h; cases h
  · rw [if_neg h0] at h
    by_cases h1 : -(n : Int) ≤ i
    · rw [if_pos h1] at h
      have e : (i + n).toNat = j := Option.some.inj h
      exact ⟨by rw [seqIndex_neg (by omega) h1, e], by omega, h1, by omega⟩
    · rw [if_neg h1] at h; cases h
theorem atI_get {α : Type} {xs : List α} {i : Int} {v : α} (h : atI xs i = some v) : ∃ j, seqIndex? i xs.length = some j ∧ xs[j]? = some v ∧ j < xs.length ∧ -(xs.length : Int) ≤ i ∧ i < xs.length := by
  unfold atI at h
  cases e : ixN xs.length i with
  | none => rw [e] at h; cases h
  | some j =>
    rw [e] at h
    obtain ⟨h1, h2, h3, h4⟩ := ixN_seq e
    exact ⟨j, h1, h, h2, h3, h4⟩
theorem atI_nat {α : Type} {xs : List α} {j : Nat} {v : α} (h : xs[j]? = some v) : atI xs (j : Int) = some v := by
  have hj : j < xs.length := (List.getElem?_eq_some_iff.mp h).1
  have e : ixN xs.length (j : Int) = some j := by
    unfold ixN
    rw [if_pos (by omega), if_pos (by omega)]; simp
  unfold atI; rw [e]; exact h
def PlainIx (b : Expr) : Prop := ∀ o i, subscripted b false o i = operate [o, i] (getItem o i)
def IxR (X : Cx) (r : R2) : Prop :=
  ∀ (value slice : Expr) (pins : List (Addr × Obj)) (s : Shared) (σ : St) (H : Hp) (x y : V) (v u : Value) (Q : VK), Inv X pins σ H s → RelV x v → RelV y u → r x y H Q →
    subscripted slice false v u = operate [v, u] (getItem v u) → wpAny (model X.prog X.w) X.A (subscriptTail value slice v u) (EP X pins σ Q) X.xe s
def MtR (X : Cx) (id : String) (r : V → List V → Hp → VK → Prop) : Prop :=
  ∀ (pins : List (Addr × Obj)) (s : Shared) (σ : St) (H : Hp) (x : V) (xs : List V) (v : Value) (us : List Value) (Q : VK), Inv X pins σ H s → RelV x v → Vals xs us → r x xs H Q →
    wpAny (model X.prog X.w) X.A (call (.builtin id) (v :: us)) (EP X pins σ Q) X.xe s
section
variable {X : Cx} {a b : Expr} {ta tb : TE} {pos : Pos}
theorem IxR.or {r r' : R2} (h : IxR X r) (h' : IxR X r') : IxR X (fun x y H Q => r x y H Q ∨ r' x y H Q) := by
  intro value slice pins s σ H x y v u Q I rx ry q hs
  rcases q with q | q
  · exact h value slice pins s σ H x y v u Q I rx ry q hs
  · exact h' value slice pins s σ H x y v u Q I rx ry q hs
theorem MtR.or {id : String} {r r' : V → List V → Hp → VK → Prop} (h : MtR X id r) (h' : MtR X id r') : MtR X id (fun x xs H Q => r x xs H Q ∨ r' x xs H Q) := by
  intro pins s σ H x xs v us Q I rx rs q
  rcases q with q | q
  · exact h pins s σ H x xs v us Q I rx rs q
  · exact h' pins s σ H x xs v us Q I rx rs q
theorem pe_ix {r : R2} (hr : IxR X r) (ha : PE X a ta) (hb : PE X b tb) (hs : PlainIx b) : PE X (.Subscript a b pos) (tOp r ta tb) := by
  intro pins s σ H Q I h
  exact Subscript_ (binT ha hb I h fun v u s2 x y H2 I2 rx ry q => hr a b pins s2 σ H2 x y v u Q I2 rx ry q (hs _ _))
def rIxL (K : PySem.W.Frag) : R2 := fun x y H Q => ∃ p xs i v, x = .ref p ∧ y = .int i ∧ SqL K H p xs ∧ atI xs i = some v ∧ Q v H
def rIxT (K : PySem.W.Frag) : R2 := fun x y H Q => ∃ p xs i v, x = .ref p ∧ y = .int i ∧ SqT K H p xs ∧ atI xs i = some v ∧ Q v H
theorem ix_list : IxR X (rIxL X.K) := by
  intro value slice pins s σ H x y v u Q I rx ry h hs
  obtain ⟨p, xs, i, z, rfl, rfl, hq, he, q⟩ := h
  cases rx
  obtain ⟨t, rfl⟩ := ry
  obtain ⟨its, r, pl, hz⟩ := I.list hq
  obtain ⟨j, h1, h2, h3, h4, h5⟩ := atI_get he
  obtain ⟨w, ew, rw'⟩ := r.get h2
  have hl := r.length
  have hn := line63
  have fin : EP X pins σ Q w s := ⟨z, H, I, rw', q⟩
  by_cases h0 : 0 ≤ i
  · have hj : i.toNat = j := by
      rw [seqIndex_of h0 h5] at h1
      exact Option.some.inj h1
    exact item_listR pl.isList h0 (by omega) (by rw [hj]; simpa using ew) fin hs
  · have hj : (i + (its.toArray.size : Int)).toNat = j := by
      rw [seqIndex_neg (by omega) h4] at h1
      rw [List.size_toArray, ← hl]
      exact Option.some.inj h1
    exact subscriptTail_builtinR (x := w) pl.isList.typeIs slot_list_getitem.lookup
      (wpAny_getItem_list_neg (Q := fun r s' => r = w ∧ EP X pins σ Q r s') pl.isList (by omega) (by rw [List.size_toArray] <;> omega) (by omega) (by rw [hj]; simpa using ew) ⟨rfl, fin⟩) hs
theorem ix_tup : IxR X (rIxT X.K) := by
  intro value slice pins s σ H x y v u Q I rx ry h hs
  obtain ⟨p, xs, i, z, rfl, rfl, hq, he, q⟩ := h
  cases rx
  obtain ⟨t, rfl⟩ := ry
  obtain ⟨its, r, pl, hz⟩ := I.tuple hq
  obtain ⟨j, h1, h2, h3, h4, h5⟩ := atI_get he
  obtain ⟨w, ew, rw'⟩ := r.get h2
  have hl := r.length
  have hn := line63
  have fin : EP X pins σ Q w s := ⟨z, H, I, rw', q⟩
  exact subscriptTail_builtinR (x := w) pl.typeIs slot_tuple_getitem.lookup
    (getItem_tuple (j := j) (Q := fun r s' => r = w ∧ EP X pins σ Q r s') pl (by omega) (by omega) (by rw [List.size_toArray, ← hl]; exact h1) (by simpa using ew) ⟨rfl, fin⟩) hs
theorem mapSeq_set (its : List Value) (n j : Nat) (u : Value) : Obj.mapSeq (·.setIfInBounds j u) { cls := .type "list", data := .seq its.toArray n } = { cls := .type "list", data := .seq (its.set j u).toArray n } := by
  simp [Obj.mapSeq]
theorem Inv.lst {pins : List (Addr × Obj)} {σ : St} {H : Hp} {s : Shared} {p : Addr} {xs : List V} (I : Inv X pins σ H s) (h : H p = some (.lst xs)) :
    ∃ (its : List Value) (n : Nat), Vals xs its ∧ s.heap.get? p = some { cls := .type "list", data := .seq its.toArray n } ∧ xs.length ≤ sizeLine := by
  obtain ⟨z, its, n, r, e⟩ := I.hok p _ h
  exact ⟨its, n, r, e, z⟩
theorem Inv.lstUpd {pins : List (Addr × Obj)} {σ : St} {H : Hp} {s : Shared} {p : Addr} {xs ys : List V} {its its' : List Value} {n n' : Nat} {f : Obj → Obj} (I : Inv X pins σ H s) (h : H p = some (.lst xs))
    (ho : s.heap.get? p = some { cls := .type "list", data := .seq its.toArray n }) (hf : f { cls := .type "list", data := .seq its.toArray n } = { cls := .type "list", data := .seq its'.toArray n' }) (r : Vals ys its') (hz : ys.length ≤ sizeLine) (t : Nat) :
    Inv X pins σ (upd H p (.lst ys)) { s with heap := s.heap.update p f, toks := t } := by
  have e : (s.heap.update p f).get? p = some { cls := .type "list", data := .seq its'.toArray n' } := by
    rw [Heap.get?_update_self f ho (by rw [hf] <;> rfl), hf]
  refine I.write (x := p) (e := p) (by rw [h]; trivial) (.inl rfl) (fun b u hb q => (Heap.get?_update_other _ _ (Ne.symm hb)).trans q) ⟨_, e⟩ ?_
  exact ⟨hz, its', n', r, e⟩
def rSetL : V → V → V → Hp → (Hp → Prop) → Prop := fun o i v H Q => ∃ p xs k j, o = .ref p ∧ i = .int k ∧ H p = some (.lst xs) ∧ ixN xs.length k = some j ∧ Q (upd H p (.lst (xs.set j v)))
theorem set_list : PSet X rSetL := by
  intro pins s σ H o i v ov iv u Q I ro ri rv h
  obtain ⟨p, xs, k, j, rfl, rfl, hp, hj, q⟩ := h
  cases ro
  obtain ⟨t, rfl⟩ := ri
  obtain ⟨its, n, r, ho, hz⟩ := I.lst hp
  obtain ⟨h1, h2, h3, h4⟩ := ixN_seq hj
  have hl := r.length
  have hn := line63
  have I' : Inv X pins σ (upd H p (.lst (xs.set j v))) { s with heap := s.heap.update p (Obj.mapSeq (·.setIfInBounds j u)) } :=
    I.lstUpd hp ho (mapSeq_set its n j u) (r.set rv j) (by rw [List.length_set]; exact hz) s.toks
  by_cases h0 : 0 ≤ k
  · have hk : k.toNat = j := by
      rw [seqIndex_of h0 h4] at h1
      exact Option.some.inj h1
    exact PySem.W.ki_setAt ho h0 (by omega) (by rw [List.size_toArray, ← hl]; exact h4) (by rw [hk]; exact ⟨_, I', q⟩)
  · have hk : (k + (its.toArray.size : Int)).toNat = j := by
      rw [seqIndex_neg (by omega) h3] at h1
      rw [List.size_toArray, ← hl]
      exact Option.some.inj h1
    exact PySem.W.ki_setBack ho (by omega) (by rw [List.size_toArray, ← hl]; exact h3) (by omega) (by rw [hk]; exact ⟨_, I', q⟩)
theorem slice_bounds (lo hi : Option Int) (n : Nat) : (sliceBounds lo hi none n).1 = ((HT.sIx n 0 lo : Nat) : Int) ∧ (sliceBounds lo hi none n).2.1 = ((HT.sIx n n hi : Nat) : Int) ∧ (sliceBounds lo hi none n).2.2 = 1 := by
  refine ⟨?_, ?_, rfl⟩
  · cases lo with
    | none => simp [sliceBounds, HT.sIx]
    | some i =>
      simp only [sliceBounds, HT.sIx, Option.getD_none, show (1 : Int) > 0 by decide, if_true]
      by_cases h : i < 0
      · simp only [h, if_true] <;> omega
      · simp only [h, if_false] <;> omega
  · cases hi with
    | none => simp [sliceBounds, HT.sIx]
    | some i =>
      simp only [sliceBounds, HT.sIx, Option.getD_none, show (1 : Int) > 0 by decide, if_true]
      by_cases h : i < 0
      · simp only [h, if_true] <;> omega
      · simp only [h, if_false] <;> omega
theorem slicePick_cut (its : List Value) (lo hi : Option Int) : slicePick its.toArray lo hi none = ((its.drop (HT.sIx its.length 0 lo)).take (HT.sIx its.length its.length hi - HT.sIx its.length 0 lo)).toArray := by
  obtain ⟨h1, h2, h3⟩ := slice_bounds lo hi its.toArray.size
  unfold slicePick
  rw [h1, h2, h3]
  simp only [sliceRange_one, pick_run, List.size_toArray] <;> rfl
def rSlL (K : PySem.W.Frag) : V → Option Int → Option Int → Hp → VK → Prop := fun x lo hi H Q => ∃ a xs, x = .ref a ∧ SqL K H a xs ∧ ∀ p, H p = none → Q (.ref p) (upd H p (.lst (cutV xs lo hi)))
theorem sl_list : SlR X (rSlL X.K) := by
  intro pins s σ H x v vl vu lo hi sl Q I rx hs pl pu h
  obtain ⟨a, xs, rfl, hx, q⟩ := h
  cases rx
  obtain ⟨its, r, ht, hz⟩ := I.list hx
  have hlen := r.length
  refine ⟨"list", _, slot_list_getitem.lookup, ht.isList.typeIs, ?_⟩
  refine wpAny_getItem_list_slice ht.isList hs pl pu .none (by simp) ?_ (by rw [List.size_toArray] <;> omega)
  rw [slicePick_cut, ← hlen]
  refine ⟨.ref s.heap.objs.size, _, I.laid (t' := s.toks) (o := .lst (cutV xs lo hi)) (fun b ob q => Heap.get?_push_of_some _ q) (Nat.le_refl _) ?_, rfl, q _ (I.hok.fresh (Nat.le_refl _))⟩
  exact ⟨Nat.le_trans (cutV_length xs lo hi) hz, _, 0, (r.drop (HT.sIx xs.length 0 lo)).take (HT.sIx xs.length xs.length hi - HT.sIx xs.length 0 lo), Heap.get?_push_size _ rfl⟩
theorem call_len_seq : CallR X (.builtin "len") (fun xs H Q => ∃ p ys, xs = [.ref p] ∧ (SqL X.K H p ys ∨ SqT X.K H p ys) ∧ Q (.int ys.length) H) := by
  intro pins s σ H xs us Q I r h
  obtain ⟨p, ys, rfl, hq, q⟩ := h
  obtain ⟨u, rfl, rx⟩ := vals1 r
  cases rx
  have hn := line63
  rcases hq with hq | hq
  · obtain ⟨its, r', pl, hz⟩ := I.list hq
    have hlen := r'.length
    exact Calls.call_len_list pl.isList (by simp only [List.size_toArray] <;> omega) ⟨.int ys.length, H, I.tok _, ⟨s.toks + 1, by rw [List.size_toArray, hlen]⟩, q⟩
  · obtain ⟨its, r', pl, hz⟩ := I.tuple hq
    have hlen := r'.length
    exact len_tuple pl (by simp only [List.size_toArray] <;> omega) ⟨.int ys.length, H, I.tok _, ⟨s.toks + 1, by rw [List.size_toArray, hlen]⟩, q⟩
theorem CallR.or {f : Value} {r r' : List V → Hp → VK → Prop} (h : CallR X f r) (h' : CallR X f r') : CallR X f (fun xs H Q => r xs H Q ∨ r' xs H Q) := by
  intro pins s σ H xs us Q I rs q
  rcases q with q | q
  · exact h pins s σ H xs us Q I rs q
  · exact h' pins s σ H xs us Q I rs q
theorem call_list_of : CallR X (.type "list") (fun xs H Q => ∃ p ys, xs = [.ref p] ∧ (SqL X.K H p ys ∨ SqT X.K H p ys) ∧ ∀ l, H l = none → Q (.ref l) (upd H l (.lst ys))) := by
  intro pins s σ H xs us Q I r h
  obtain ⟨p, ys, rfl, hq, q⟩ := h
  obtain ⟨u, rfl, rx⟩ := vals1 r
  cases rx
  have fin : ∀ (its : List Value), Vals ys its → ys.length ≤ sizeLine → ∀ (h' : Heap) (c' : Nat), (∀ b o', s.heap.get? b = some o' → h'.get? b = some o') →
      h'.get? s.heap.objs.size = some { cls := .type "list", dict := none, data := .seq its.toArray c', slots := #[] } → EP X pins σ Q (.ref s.heap.objs.size) { s with heap := h' } := fun its r' hz h' c' kp e =>
    ⟨.ref s.heap.objs.size, _, I.laid (t' := s.toks) kp (Nat.le_refl _) (show ObjOk X.prog X.w _ h' _ (.lst ys) from ⟨hz, its, c', r', e⟩), rfl, q _ (I.hok.fresh (Nat.le_refl _))⟩
  rcases hq with hq | hq
  · obtain ⟨its, r', pl, hz⟩ := I.list hq
    have hlen := r'.length
    obtain ⟨o, ho, hc, n, hd⟩ := pl.isList
    exact call_list_seq p (.inl rfl) ho hc hd (fun h' c' kp e => fin its r' hz h' c' kp e) (by simp only [List.size_toArray] <;> omega)
  · obtain ⟨its, r', pl, hz⟩ := I.tuple hq
    have hlen := r'.length
    obtain ⟨o, ho, hc, n, hd⟩ := pl
    exact call_list_seq p (.inr rfl) ho hc hd (fun h' c' kp e => fin its r' hz h' c' kp e) (by simp only [List.size_toArray] <;> omega)
theorem call_tuple_of : CallR X (.type "tuple") (fun xs H Q => ∃ p ys, xs = [.ref p] ∧ ((SqL X.K H p ys ∧ ∀ l, H l = none → Q (.ref l) (upd H l (.tup ys))) ∨ (SqT X.K H p ys ∧ Q (.ref p) H))) := by
  intro pins s σ H xs us Q I r h
  obtain ⟨p, ys, rfl, h⟩ := h
  obtain ⟨u, rfl, rx⟩ := vals1 r
  cases rx
  rcases h with ⟨hq, q⟩ | ⟨hq, q⟩
  · obtain ⟨its, r', pl, hz⟩ := I.list hq
    have hlen := r'.length
    refine call_tuple_list pl.isList (fun h' kp => ?_) (by simp only [List.size_toArray] <;> omega)
    have I1 : Inv X pins σ H { s with heap := h' } := I.kept (t' := s.toks) kp
    have I2 : Inv X pins σ (upd H h'.objs.size (.tup ys)) { s with heap := h'.push { cls := .type "tuple", data := .seq its.toArray } } :=
      I1.laid (t' := s.toks) (fun b o e => Heap.get?_push_of_some _ e) (Nat.le_refl _) (show ObjOk X.prog X.w _ _ _ (.tup ys) from ⟨hz, its, r', IsTup.new _ _⟩)
    exact ⟨.ref h'.objs.size, _, I2, rfl, q _ (I1.hok.fresh (Nat.le_refl _))⟩
  · obtain ⟨its, r', pl, hz⟩ := I.tuple hq
    exact call_tuple_same pl ⟨.ref p, H, I, rfl, q⟩
def tyV (K : PySem.W.Frag) (T : String) (x : V) (H : Hp) : Prop := match x with
  | .str _ => T = "str"
  | .int _ => T = "int"
  | .ref p => (T = "list" ∧ ∃ xs, SqL K H p xs) ∨ (T = "tuple" ∧ ∃ o, K.lookup p = some o ∧ o.cls = .type "tuple" ∧ o.dict = none) ∨
      (T = "dict" ∧ ((∃ kvs, H p = some (.dK kvs)) ∨ ∃ kvs, H p = some (.dT kvs))) ∨ (T = "set" ∧ ∃ S n, H p = some (.set S n))
  | _ => False
theorem tyV_is {pins : List (Addr × Obj)} {σ : St} {H : Hp} {s : Shared} {T : String} {x : V} {v : Value} (I : Inv X pins σ H s) (r : RelV x v) (ty : tyV X.K T x H) :
    s.TypeIs v T ∧ ∀ a, v = .ref a → ∃ ob, s.heap.get? a = some ob ∧ ob.dict = none := by
  cases x with
  | str z =>
    obtain ⟨t, rfl⟩ := r
    cases (show T = "str" from ty)
    exact ⟨typeIs_str s z t, fun _ e => nomatch e⟩
  | int i =>
    obtain ⟨t, rfl⟩ := r
    cases (show T = "int" from ty)
    exact ⟨typeIs_int s i t, fun _ e => nomatch e⟩
  | ref p =>
    cases r
    rcases ty with ⟨rfl, xs, hq⟩ | ⟨rfl, o, hk, hc, hd⟩ | ⟨rfl, hk⟩ | ⟨rfl, S, n, hk⟩
    · obtain ⟨its, _, pl, _⟩ := I.list hq
      refine ⟨pl.isList.typeIs, fun a e => ?_⟩
      cases e
      obtain ⟨o, n, e, c, hd, _⟩ := pl
      exact ⟨o, e, hd⟩
    · refine ⟨⟨o, I.kIn p o hk, hc⟩, fun a e => ?_⟩
      cases e
      exact ⟨o, I.kIn _ o hk, hd⟩
    · have z : ∃ o, s.heap.get? p = some o ∧ o.ExactDict := by
        rcases hk with ⟨kvs, hk⟩ | ⟨kvs, hk⟩
        · obtain ⟨_, _, _, _, o, _, _, e, ex, _⟩ := I.hok p _ hk
          exact ⟨o, e, ex⟩
        · obtain ⟨_, _, _, _, o, _, _, e, ex, _⟩ := I.hok p _ hk
          exact ⟨o, e, ex⟩
      obtain ⟨o, e, ex⟩ := z
      refine ⟨⟨o, e, ex.1⟩, fun a e2 => ?_⟩
      cases e2
      exact ⟨o, e, ex.2.1⟩
    · obtain ⟨o, _, _, _, e, ex, _⟩ := I.hok p _ hk
      refine ⟨⟨o, e, ex.1⟩, fun a e2 => ?_⟩
      cases e2
      exact ⟨o, e, ex.2.1⟩
  | _ => exact False.elim ty
def tBM (K : PySem.W.Frag) (T : String) (r : V → List V → Hp → VK → Prop) (to : TE) (t : TA) : TE := fun σ H Q => to σ H fun x H1 => tyV K T x H1 ∧ t σ H1 fun xs H2 => r x xs H2 Q
variable {o e : Expr} {es : List Expr} {to : TE} {t : TA} {name : Str} {apos cpos : Pos} {T id : String} {r : V → List V → Hp → VK → Prop}
theorem pe_bm (pa : PlainAttrs T) (slot : Slot T name id) (hty : typeOf (.builtin id) = pure (.type "method_descriptor")) (hm : MtR X id r) (ho : PE X o to) (ha : PA X (e :: es) t)
    (hbase : attributeBase o name X.env (eval o X.env) = eval o X.env := by rfl)
    (hfew : ((backTo cpos (starEach (e :: es) X.env)).all (fun x => !x.1) && (backToKw cpos (keywordEach [] X.env)).all (fun x => x.1.isSome)
      && decide ((e :: es).length + ([] : List Keyword).length + (if ([] : List Keyword).isEmpty then 0 else 1) < 30)) = true := by rfl)
    (hline : (apos.endLine == cpos.line) = true := by rfl) (hs : starEach (e :: es) X.env = (false, eval e X.env) :: starEach es X.env := by rfl) (hplain : (backTo cpos (starEach es X.env)).any (·.1) = false := by rfl) :
    PE X (.Call (.Attribute o name apos) (e :: es) [] cpos) (tBM X.K T r to t) := by
  intro pins s σ H Q I h
  refine wpAny_Call_method_late hbase hfew hline rfl (thn (ho pins s σ H _ I h) fun v s1 ⟨x, H1, I1, r1, ty, q1⟩ => ?_)
  obtain ⟨h1, h2⟩ := tyV_is I1 r1 ty
  refine ⟨T, id, pa, slot, hty, h1, h2, ?_⟩
  have hA := ha cpos pins s1 σ H1 _ I1 q1
  rw [hs] at hA ⊢
  refine Calls.callWith_builtin (by show (false || (backTo cpos (starEach es X.env)).any (·.1)) = false; rw [hplain] <;> rfl) (Calls.evalArgs_plain ?_)
  exact thn hA fun us s2 ⟨vs, H2, I2, r2, q2⟩ => hm pins s2 σ H2 x vs v us Q I2 r1 r2 q2
end
end L2
namespace L2
open PySem PySem.Spec PyProof.Rows
def MtM (X : Cx) (id : String) (r : V → List V → Hp → VK → Prop) : Prop :=
  ∀ (pins : List (Addr × Obj)) (s : Shared) (σ : St) (H : Hp) (x : V) (xs : List V) (v : Value) (us : List Value) (Q : VK), Inv X pins σ H s → RelV x v → Vals xs us → r x xs H Q →
    wpAny (model X.prog X.w) X.A (call (.builtin id) (v :: us)) (EP X pins σ Q) X.xe s
theorem Vals.one : ∀ {x : V} {us : List Value}, Vals [x] us → ∃ u, us = [u] ∧ RelV x u
  | _, _, .cons r .nil => ⟨_, rfl, r⟩
theorem Vals.two : ∀ {x y : V} {us : List Value}, Vals [x, y] us → ∃ u v, us = [u, v] ∧ RelV x u ∧ RelV y v
  | _, _, _, .cons r (.cons q .nil) => ⟨_, _, rfl, r, q⟩
theorem Vals.zero : ∀ {us : List Value}, Vals [] us → us = []
  | _, .nil => rfl
theorem Vals.eraseIdx : ∀ {xs : List V} {us : List Value} (i : Nat), Vals xs us → Vals (xs.eraseIdx i) (us.eraseIdx i)
  | _, _, _, .nil => .nil
  | _, _, 0, .cons _ t => t
  | _, _, i + 1, .cons r t => .cons r (Vals.eraseIdx i t)
theorem Vals.reverse {xs : List V} {us : List Value} (h : Vals xs us) : Vals xs.reverse us.reverse := by
  induction h with
  | nil => exact .nil
  | cons r t ih => rw [List.reverse_cons, List.reverse_cons]; exact Vals.append ih (.cons r .nil)
theorem Vals.rep {xs : List V} {us : List Value} (h : Vals xs us) : ∀ k : Nat, Vals (List.replicate k xs).flatten (List.replicate k us).flatten
  | 0 => .nil
  | k + 1 => by
    rw [List.replicate_succ, List.replicate_succ, List.flatten_cons, List.flatten_cons]
    exact Vals.append h (Vals.rep h k)
section
variable {X : Cx} {pins : List (Addr × Obj)} {σ : St} {H : Hp} {s : Shared} {l b : Addr} {xs ys zs : List V}
theorem Inv.lset {its its' : List Value} {n : Nat} {f : Array Value → Array Value} {t' : Nat} (I : Inv X pins σ H s) (hH : H l = some (.lst xs))
    (e : s.heap.get? l = some { cls := .type "list", data := .seq its.toArray n }) (hf : f its.toArray = its'.toArray) (hv : Vals ys its') (hz : ys.length ≤ sizeLine) :
    Inv X pins σ (upd H l (.lst ys)) { s with heap := s.heap.update l (Obj.mapSeq f), toks := t' } := by
  have q := PySem.IsL.update e f
  rw [hf] at q
  refine I.write (x := l) (e := l) (by rw [hH]; exact trivial) (.inl rfl) (fun b' u hb hu => (Heap.get?_update_other s.heap (Obj.mapSeq f) (Ne.symm hb)).trans hu) ⟨_, q⟩ ?_
  exact ⟨hz, its', _, hv, q⟩
theorem Inv.lnew {its : List Value} {t' : Nat} (I : Inv X pins σ H s) (hv : Vals ys its) (hz : ys.length ≤ sizeLine) :
    Inv X pins σ (upd H s.heap.objs.size (.lst ys)) { s with heap := s.heap.push { cls := .type "list", data := .seq its.toArray }, toks := t' } :=
  I.laid (fun _ _ q => Heap.get?_push_of_some _ q) (Nat.le_refl _) ⟨hz, its, 0, hv, Heap.get?_push_size _ rfl⟩
theorem Inv.fresh (I : Inv X pins σ H s) : H s.heap.objs.size = none := I.hok.fresh (Nat.le_refl _)
theorem Inv.lstM (I : Inv X pins σ H s) (hH : H l = some (.lst xs)) : xs.length ≤ sizeLine ∧ ∃ (its : List Value) (n : Nat), Vals xs its ∧ xs.length = its.length ∧ s.heap.get? l = some { cls := .type "list", data := .seq its.toArray n } := by
  obtain ⟨z, its, n, r, e⟩ := I.hok l _ hH
  exact ⟨z, its, n, r, r.length, e⟩
theorem notLongL {n : Nat} (h : n ≤ sizeLine) : Builtin.List.listTooLong n = false := by
  unfold Builtin.List.listTooLong
  exact decide_eq_false (by omega)
end
section
variable {X : Cx}
def rAppend : V → List V → Hp → VK → Prop := fun x vs H Q => ∃ l xs y, x = .ref l ∧ vs = [y] ∧ H l = some (.lst xs) ∧ xs.length < sizeLine ∧ Q .non (upd H l (.lst (xs ++ [y])))
theorem mt_append : MtM X "list.append" rAppend := by
  intro pins s σ H x vs v us Q I rx rv h
  obtain ⟨l, xs, y, rfl, rfl, hH, hz, q⟩ := h
  cases rx
  obtain ⟨u, rfl, ru⟩ := rv.one
  obtain ⟨z, its, n, r, hl, e⟩ := I.lstM hH
  refine call_meets F.slot_list_append ⟨_, e, rfl⟩ F.entry_list_append (F.args_list_append_2 _ _) (PySem.list_append l its.toArray n u (by rw [List.size_toArray]; omega)) ⟨e, ?_⟩
  refine ⟨.non, _, I.lset (its' := its ++ [u]) hH e (by simp) (r.append (.cons ru .nil)) ?_, rfl, q⟩
  rw [List.length_append, List.length_singleton]
  omega
def rExtend : V → List V → Hp → VK → Prop := fun x vs H Q => ∃ l b xs zs, x = .ref l ∧ vs = [.ref b] ∧ H l = some (.lst xs) ∧ H b = some (.lst zs) ∧ xs.length + zs.length ≤ sizeLine ∧ Q .non (upd H l (.lst (xs ++ zs)))
theorem mt_extend : MtM X "list.extend" rExtend := by
  intro pins s σ H x vs v us Q I rx rv h
  obtain ⟨l, b, xs, zs, rfl, rfl, hH, hB, hz, q⟩ := h
  cases rx
  obtain ⟨u, rfl, ru⟩ := rv.one
  cases ru
  obtain ⟨z, its, n, r, hl, e⟩ := I.lstM hH
  obtain ⟨z2, its2, n2, r2, hl2, e2⟩ := I.lstM hB
  have hsz : its.toArray.size + its2.toArray.size ≤ sizeLine := by rw [List.size_toArray, List.size_toArray]; omega
  have hlong : ¬ (!its.toArray.isEmpty && Builtin.List.listTooLong (its.toArray.size + its2.toArray.size)) = true := by
    rw [notLongL hsz, Bool.and_false]
    exact Bool.false_ne_true
  refine call_meets F.slot_list_extend ⟨_, e, rfl⟩ F.entry_list_extend (F.args_list_extend_2 _ _)
    (AutoSeq1.list_extend_list_list_0 l its.toArray n b its2.toArray n2 hlong (by rw [List.size_toArray]; omega) (by omega)) ⟨e, e2, ?_⟩
  refine ⟨.non, _, I.lset (its' := its ++ its2) hH e (by simp) (r.append r2) ?_, rfl, q⟩
  rw [List.length_append]
  omega
def rCat : R2 := fun x y H Q => ∃ l b xs zs, x = .ref l ∧ y = .ref b ∧ H l = some (.lst xs) ∧ H b = some (.lst zs) ∧ xs.length + zs.length ≤ sizeLine ∧ ∀ p, H p = none → Q (.ref p) (upd H p (.lst (xs ++ zs)))
theorem op_cat : OpR X (binaryOp .Add) rCat := by
  intro pins s σ H x y v u Q I rx ry h
  obtain ⟨l, b, xs, zs, rfl, rfl, hH, hB, hz, q⟩ := h
  cases rx
  cases ry
  obtain ⟨z, its, n, r, hl, e⟩ := I.lstM hH
  obtain ⟨z2, its2, n2, r2, hl2, e2⟩ := I.lstM hB
  refine PySem.P.add_list e e2 ?_ (by rw [List.size_toArray, List.size_toArray]; omega)
  have ea : its.toArray ++ its2.toArray = (its ++ its2).toArray := by simp
  rw [ea]
  exact ⟨.ref _, _, I.lnew (t' := s.toks) (r.append r2) (by rw [List.length_append]; omega), rfl, q _ I.fresh⟩
end
section
variable {prog : Program} {w : World} {A : Around} {E : Value → Shared → Prop} {s : Shared}
end
section
variable {X : Cx}
end
end L2
namespace Att
open PySem PySem.W PySem.Calls PyProof.Rows
theorem ints_of_wellAll {P : Params} {h : Heap} : ∀ (ns : List Int) (vs : List Value), WellAll P h vs (ns.map WData.int) → IntsAre vs ns := by
  intro ns
  induction ns with
  | nil =>
    intro vs w
    rw [List.map_nil] at w
    cases w
    exact .nil
  | cons n ns ih =>
    intro vs w
    rw [List.map_cons] at w
    cases w with
    | cons a b =>
      cases a
      exact .cons _ _ (ih _ b)
theorem script_of {l : OpenLaw} {n : Nat} (hn : l.most = some n) {P : Params} {h : Heap} {args : List WData} {vals : List Value}
    (hpre : l.row.toRowW.claim.pre args = true) (hwl : WellAll P h vals args) :
    ∃ a vs ns, vals = [Value.ref a] ∧ args = [WData.list (ns.map WData.int)] ∧ h.get? a = some { cls := .type "list", data := .seq vs.toArray } ∧ IntsAre vs ns ∧ ns.length ≤ n := by
  have hsh : WShape.hasAll [] args [.list .int] = true := (pre_splitW hpre).1
  have hc : l.pre.holds [] { args := args } = true := (pre_splitW hpre).2
  obtain ⟨d, r, rfl, h1, h2⟩ := hasAllW_cons hsh
  obtain rfl := hasAllW_nil h2
  obtain ⟨xs, rfl, h3⟩ := hasW_list h1
  obtain ⟨ns, rfl⟩ := items_int h3
  have hlen : ns.length ≤ n := by
    unfold OpenLaw.pre at hc
    have h4 : (WTm.not (.lt (.lit (.int (n : Int))) (.len (.arg 0)))).holds [] { args := [.list (ns.map .int)] } = true := by
      have h4 := (holds_andW hc).1
      rw [hn] at h4
      exact h4
    have h5 := condW_of h4 (w_not (w_lt w_lit (w_len_list (w_arg rfl))))
    rw [List.length_map] at h5
    refine Nat.le_of_not_lt fun q => ?_
    have q' : (n : Int) < ((ns.length : Nat) : Int) := by omega
    first
      | (rw [decide_eq_true q'] at h5; exact absurd h5 (by decide))
      | (simp at h5; omega)
  cases hwl with
  | cons w1 w2 =>
    cases w2
    cases w1 with
    | list ho hall => exact ⟨_, _, ns, rfl, rfl, ho, ints_of_wellAll ns _ hall, hlen⟩
theorem post_true (l : OpenLaw) (args : List WData) : l.row.toRowW.claim.post args (.bool true) args = true :=
  postW_of (r := l.row.toRowW) (X := (true == true))
    (show WShape.has [] (.bool true) .bool = true by first | rfl | decide | simp [WShape.has, WShape.arms, WShape.armsAll])
    (show (WTm.eq .res (.lit (.bool true))).value [] { args := args, res := some (.bool true), after := args } = some (.bool (true == true)) from w_eq_bool (w_res rfl) w_lit) rfl
section
variable {prog : Program} {w : World} {A : Around} {E : Value → Shared → Prop} {s : Shared} {K : Frag}
end
end Att
namespace L2
open PySem PySem.Spec PyProof.Rows
theorem vals_ints : ∀ {vs : List Value} {ns : List Int}, IntsAre vs ns → Vals (ns.map V.int) vs
  | _, _, .nil => .nil
  | _, _, .cons n t h => .cons ⟨t, rfl⟩ (vals_ints h)
def Only (H : Hp) : Prop := ∀ b, H b = none ∨ ∃ o xs, H b = some (.frz o (.lst xs))
theorem law_call {P : Program} {w : World} {K : PySem.W.Frag} {mg mb : Str → Option Value} {CX : CXT} {k : Nat} {fa a : Addr} {fd : FuncData} {x : Str} {sp : Sp} {s₁ : Shared} {vs : List Value} {ns : List Int}
    (KX : K.In s₁.heap) (hns : s₁.heap.Ns mainGlobals mg) (hb : s₁.heap.Ns builtinsNs mb) (hbb : ∀ x : Str, x ≠ "__name__" → mb x = bootBuiltins x) (hlim : s₁.heap.NoLimit) (hg : s₁.gens = #[])
    (ha : s₁.heap.get? a = some { cls := .type "list", data := .seq vs.toArray }) (hi : IntsAre vs ns) (hl : ns.length ≤ sizeLine) (hr : Room k callerA)
    (F : ∀ base : Heap, K.In base → base.Ns mainGlobals mg → FnOk P w K mg base CX k fa fd [x] sp) (hbind : ∀ (s : Shared) (u : Value), BindsTo s fd ⟨[u], []⟩ [(x, u)])
    (hsp : ∀ H : Hp, Only H → SqL K H a (ns.map V.int) → sp [.ref a] H (fun v _ => v = .bl true) fun _ _ _ => False)
    (hCX : ∀ H e s', CX [] H s₁ (fun _ _ _ => False) e s' → False) :
    codeAny (model P w) callerA (.call (.ref fa) ⟨[.ref a], []⟩) (fun r s' => r = .ok (.ret (.bool true)) ∧ OldK s₁.heap s'.heap ∧ s'.os = s₁.os ∧ AllBare s'.gens) s₁ := by
  have rv := vals_ints hi
  have lenV := hi.length
  have core : ∀ H : Hp, Only H → SqL K H a (ns.map V.int) → HOk P w H s₁.heap → (∀ b, H b ≠ none → b = a) → (H a ≠ none → K.lookup a = none) →
      codeAny (model P w) callerA (.call (.ref fa) ⟨[.ref a], []⟩) (fun r s' => r = .ok (.ret (.bool true)) ∧ OldK s₁.heap s'.heap ∧ s'.os = s₁.os ∧ AllBare s'.gens) s₁ := by
    intro H hO hS hok hA hK
    have base_of : ∀ {b : Addr} {o : Obj}, s₁.heap.get? b = some o → H b = none → (hidT s₁.heap H).get? b = some o := fun e n => hidT_get e n
    have noA : ∀ {b : Addr} {o : Obj} {es : Array DictEntry} {ep : Nat}, s₁.heap.get? b = some o → o.data = .dict es ep → H b = none := fun {b o es ep} e d => by
      cases q : H b with
      | none => rfl
      | some u =>
        have e' : b = a := hA b (by rw [q]; simp)
        subst e'
        rw [ha] at e; cases e
        have d' : Data.seq vs.toArray _ = Data.dict es ep := d
        cases d'
    have nsK : ∀ {b : Addr} {m : Str → Option Value}, s₁.heap.Ns b m → (hidT s₁.heap H).Ns b m := fun {b m} ⟨o, es, ep, e, d, r⟩ => ⟨o, es, ep, base_of e (noA e d), d, r⟩
    have hKb : K.In (hidT s₁.heap H) := fun b o e => base_of (KX b o e) (by
      cases q : H b with
      | none => rfl
      | some u =>
        have e' : b = a := hA b (by rw [q]; simp)
        subst e'
        rw [hK (by rw [q]; simp)] at e; cases e)
    have hM : Mod K mg (hidT s₁.heap H) := ⟨hKb, nsK hns, ⟨mb, nsK hb, hbb⟩, let ⟨mc, h1, h2⟩ := hlim; ⟨mc, nsK h1, h2⟩⟩
    have e0 : Env0 P w K mg (hidT s₁.heap H) callerA [] s₁ H := ⟨rfl, hM, fun b o e => of_hidT e, Nat.le_of_eq (hidT_size _ _), trivial, fun b hb => absurd (show b ∈ ([] : List Addr) from hb) (by simp), hok, .of_eq hg⟩
    refine codeAny_mono ((F _ hKb (nsK hns)).run callerA [] s₁ H ⟨[.ref a], []⟩ [.ref a] [.ref a] _ _ hr e0 (hbind s₁ (.ref a)) (.cons rfl .nil) (hsp H hO hS)) fun r s' h => ?_
    cases r with
    | error e => exact (hCX H e s' h).elim
    | ok fl =>
      cases fl with
      | next => exact False.elim h
      | brk => exact False.elim h
      | cont => exact False.elim h
      | ret u =>
        obtain ⟨v, H', os, bare, un, hok', r', q⟩ := h
        have q' : v = .bl true := q
        subst q'
        obtain rfl : u = Value.bool true := r'
        refine ⟨rfl, OldK.of_keep fun b o e => ?_, os, bare⟩
        cases q : H b with
        | none => exact un.keep b o e q (by intro z; exact absurd (show b ∈ ([] : List Addr) from z) (by simp)) (by simp)
        | some u =>
          rcases hO b with z | ⟨ob, xs, z⟩
          · rw [q] at z; cases z
          · have z2 := un.frzs b ob _ z
            obtain ⟨e1, _⟩ := hok b _ z
            obtain ⟨e2, _⟩ := hok' b _ z2
            rw [e] at e1; cases e1
            exact e2
  cases hk : K.lookup a with
  | some o =>
    have e := KX a o hk
    rw [ha] at e
    cases e
    refine core (fun _ => none) (fun _ => .inl rfl) (.inr ⟨_, vs.toArray, _, hk, rfl, rfl, rfl, by rw [List.size_toArray, lenV]; exact hl, by simpa using rv⟩) (fun b u z => by have z' : (none : Option HO) = some u := z; cases z') (fun b z => absurd rfl z) fun z => absurd rfl z
  | none =>
    refine core (fun b => if b = a then some (.frz { cls := .type "list", data := .seq vs.toArray } (.lst (ns.map V.int))) else none) (fun b => ?_) (.inl (.inr ⟨{ cls := .type "list", data := .seq vs.toArray }, if_pos rfl⟩)) (fun b u z => ?_) (fun b z => ?_) fun _ => hk
    · by_cases hb : b = a
      · exact .inr ⟨_, _, if_pos hb⟩
      · exact .inl (if_neg hb)
    · by_cases hb : b = a
      · have z' := (if_pos hb).symm.trans z
        cases z'
        subst hb
        exact ⟨ha, by rw [List.length_map]; exact hl, vs, _, rv, ha⟩
      · have z' := (if_neg hb).symm.trans z
        cases z'
    · by_cases hb : b = a
      · exact hb
      · exact absurd (if_neg hb) z
end L2
namespace L2
open PySem PySem.Spec PyProof.Rows
end L2
namespace L2
open PySem PySem.Spec PyProof.Rows
def defArgs (s : Stmt) : Arguments := match s with
  | .FunctionDef _ a _ _ _ _ _ _ _ _ => a
  | _ => { posonlyargs := [], args := [], vararg := none, kwonlyargs := [], kw_defaults := [], kwarg := none, defaults := [] }
def defBody (s : Stmt) : List Stmt := match s with
  | .FunctionDef _ _ b _ _ _ _ _ _ _ => b
  | _ => []
def defScope (s : Stmt) : Scope := match s with
  | .FunctionDef _ _ _ _ _ _ sc _ _ _ => sc
  | _ => { kind := .function, names := [], isGenerator := false, isCoroutine := false }
abbrev CX0 : CXT := fun _ _ _ _ _ _ => False
abbrev E0 : XK := fun _ _ _ => False
theorem pass0 {X : Cx} : Passes CX0 X E0 := fun _ _ _ _ _ _ _ h => h.elim
structure Fun (K : PySem.W.Frag) (x qual : Str) (st : Stmt) (f : Addr) (fd : FuncData) : Prop where
  ex : ∃ (oc : Value) (od : Option Addr) (kV doc pm : Value) (an : Option Addr) (cdv ct : Value) (osl : Array (Option Value)),
    fd = PySem.W.fnOf x qual (defArgs st) (defBody st) (defScope st) .none kV doc pm an cdv ct ∧ K.lookup f = some ⟨oc, od, .func fd, osl⟩ ∧ PySem.W.codeIn K cdv qual = true
  kp : PySem.W.keepIn K (.ref f) = true
section
variable {P : Program} {w : World} {K : PySem.W.Frag} {mg : Str → Option Value} {base : Heap}
theorem Fun.ok {x qual : Str} {st : Stmt} {f : Addr} {fd : FuncData} {N ps : List Str} {k : Nat} {sp : Sp} (F : Fun K x qual st f fd) (S : FnScope N ps (defScope st)) (len : ∀ vs H Q E, sp vs H Q E → vs.length = ps.length)
    (hbody : ∀ (cdv : Value) (A : Around) (outer : List Env) (s : Shared) (H : Hp) (vs : List V) (Q : VK) (E : XK), Room k (A.deeper (envOfC qual (defScope st) s.heap.objs.size f cdv)) → sp vs H Q E →
      ∃ t, PSs (cxOf CX0 P w K mg base N qual (defScope st) f cdv A outer s H E).nox (defBody st) t ∧ t { nx := fun _ H' => Q .non H', rt := Q } (start N vs) H) : FnOk P w K mg base CX0 (k + 1) f fd ps sp := by
  obtain ⟨oc, od, kV, doc, pm, an, cdv, ct, osl, rfl, lk, hcd⟩ := F.ex
  refine fn_of lk hcd S len fun A outer s H vs Q E hr hsp => ?_
  obtain ⟨t, h, q⟩ := hbody cdv A outer s H vs Q E hr hsp
  exact ⟨t, h.nox, q⟩
theorem Fun.binds {x qual : Str} {st : Stmt} {f : Addr} {fd : FuncData} {ps : List Str} (F : Fun K x qual st f fd)
    (h : ∀ (kV doc pm : Value) (an : Option Addr) (cdv ct : Value) (us : List Value), us.length = ps.length → bindArgs (PySem.W.fnOf x qual (defArgs st) (defBody st) (defScope st) .none kV doc pm an cdv ct) ⟨us, []⟩ = pure (ps.zip us)) : Binds K fd ps [] := by
  obtain ⟨oc, od, kV, doc, pm, an, cdv, ct, osl, rfl, lk, hcd⟩ := F.ex
  exact .all (h kV doc pm an cdv ct)
theorem fun_mk {x qual : Str} {st : Stmt} {f : Addr} {oc : Value} {od an : Option Addr} {osl : Array (Option Value)} {kV doc pm cdv ct : Value} (l : K.lookup f = some ⟨oc, od, .func (PySem.W.fnOf x qual (defArgs st) (defBody st) (defScope st) .none kV doc pm an cdv ct), osl⟩)
    (c : PySem.W.codeIn K cdv qual = true) (k : PySem.W.keepIn K (.ref f) = true) : Fun K x qual st f (PySem.W.fnOf x qual (defArgs st) (defBody st) (defScope st) .none kV doc pm an cdv ct) := ⟨⟨oc, od, kV, doc, pm, an, cdv, ct, osl, rfl, l, c⟩, k⟩
end
section
variable {X : Cx}
theorem pv (i : Nat) {x : Str} {pos : Pos} (hN : X.N[i]? = some x := by rfl) (hv : Vis X.env.scope x := by first | exact Or.inl rfl | exact Or.inr (Or.inl rfl) | exact Or.inr (Or.inr rfl)) (hd : (x == ("__debug__" : Str)) = false := by decide)
    (hcd : (x == ("__classdict__" : Str)) = false := by decide) : PE X (.Name x pos) (tVar i) := pe_var hN hv hd hcd
end
theorem iteF {A B : Prop} (h : B) : if false = true then A else B := by
  rw [if_neg Bool.false_ne_true]
  exact h
theorem ite2 {c A B : Prop} [Decidable c] (h1 : c → A) (h2 : ¬ c → B) : if c then A else B := by
  by_cases h : c
  · rw [if_pos h]
    exact h1 h
  · rw [if_neg h]
    exact h2 h
def Same (H H' : Hp) : Prop := ∀ b o, H b = some o → H' b = some o
theorem Same.refl (H : Hp) : Same H H := fun _ _ h => h
theorem Same.trans {H H1 H2 : Hp} (a : Same H H1) (b : Same H1 H2) : Same H H2 := fun c o h => b c o (a c o h)
theorem Same.free {H H' : Hp} (e : Same H H') {l : Addr} (h : H' l = Option.none) : H l = Option.none := by
  cases q : H l with
  | none => rfl
  | some o =>
    rw [e l o q] at h
    cases h
theorem Same.seq {K : PySem.W.Frag} {H H' : Hp} {a : Addr} {xs : List V} (e : Same H H') (h : SqL K H a xs) : SqL K H' a xs := by
  rcases h with (h | ⟨o, h⟩) | h
  · exact .inl (.inl (e _ _ h))
  · exact .inl (.inr ⟨o, e _ _ h⟩)
  · exact .inr h
end L2
set_option maxHeartbeats 4000000
namespace L3
open PySem PySem.Spec PyProof.Rows L2
abbrev St := L2.St
inductive D where
  | non | bl (b : Bool) | int (i : Int) | str (x : Str) | ty (n : String) | ref (a : Addr) | tup (xs : List D) | frl (xs : List D) | thg (n : String) | exc (C : Addr) (nm : Str) (xs : List D)
def Kl (K : PySem.W.Frag) (a : Addr) (xs : List V) : Prop :=
  ∃ (o : Obj) (its : Array Value) (n : Nat), K.lookup a = some o ∧ o.cls = .type "list" ∧ o.dict = none ∧ o.data = .seq its n ∧ its.size ≤ sizeLine ∧ Vals xs its.toList
def Fz (K : PySem.W.Frag) (H : Hp) (a : Addr) (xs : List V) : Prop := (∃ o, H a = some (.frz o (.lst xs))) ∨ Kl K a xs
theorem Fz.sq {K : PySem.W.Frag} {H : Hp} {a : Addr} {xs : List V} (h : Fz K H a xs) : SqL K H a xs := by
  rcases h with ⟨o, h⟩ | h
  · exact .inl (.inr ⟨o, h⟩)
  · exact .inr h
abbrev xO (C t : Addr) : Obj := { cls := .ref C, data := .fields #[.ref t, .none, .none, .none, .bool false, .none] }
abbrev yO (C t d : Addr) : Obj := { cls := .ref C, dict := some d, data := .fields #[.ref t, .none, .none, .none, .bool false, .none] }
def Xo (H : Hp) (C : Addr) (nm : Str) (o : Obj) (xs : List V) : Prop := (xs = [] ∧ ∃ t, o = xO C t) ∨ ∃ t dx od vx, xs = [vx] ∧ o = yO C t dx ∧ H dx = some (.frz od (.xd [(nm, vx)]))
mutual
def Dat (K : PySem.W.Frag) (H : Hp) : D → V → Prop
  | .non, v => v = .non
  | .bl b, v => v = .bl b
  | .int i, v => v = .int i
  | .str x, v => v = .str x
  | .ty n, v => v = .ty n
  | .ref a, v => v = .ref a
  | .tup ds, v => ∃ a xs, v = .ref a ∧ H a = some (.tup xs) ∧ Dats K H ds xs
  | .frl ds, v => ∃ a xs, v = .ref a ∧ Fz K H a xs ∧ Dats K H ds xs
  | .thg n, v => ∃ a o u, v = .ref a ∧ H a = some (.frz o u) ∧ o.cls = .type n
  | .exc C nm ds, v => ∃ a o u xs, v = .ref a ∧ H a = some (.frz o u) ∧ Xo H C nm o xs ∧ Dats K H ds xs
def Dats (K : PySem.W.Frag) (H : Hp) : List D → List V → Prop
  | [], xs => xs = []
  | d :: ds, xs => ∃ v vs, xs = v :: vs ∧ Dat K H d v ∧ Dats K H ds vs
end
structure Ext (H H' : Hp) : Prop where
  tup : ∀ b xs, H b = some (.tup xs) → H' b = some (.tup xs)
  frz : ∀ b o u, H b = some (.frz o u) → H' b = some (.frz o u)
theorem Ext.refl (H : Hp) : Ext H H := ⟨fun _ _ h => h, fun _ _ _ h => h⟩
theorem Ext.trans {H H1 H2 : Hp} (a : Ext H H1) (b : Ext H1 H2) : Ext H H2 := ⟨fun c xs h => b.tup c xs (a.tup c xs h), fun c o u h => b.frz c o u (a.frz c o u h)⟩
theorem Fz.mono {K : PySem.W.Frag} {H H' : Hp} {a : Addr} {xs : List V} (e : Ext H H') (h : Fz K H a xs) : Fz K H' a xs := by
  rcases h with ⟨o, h⟩ | h
  · exact .inl ⟨o, e.frz _ _ _ h⟩
  · exact .inr h
theorem Xo.mono {H H' : Hp} {C : Addr} {nm : Str} {o : Obj} {xs : List V} (e : Ext H H') (h : Xo H C nm o xs) : Xo H' C nm o xs := by
  rcases h with h | ⟨t, dx, od, vx, e1, e2, e3⟩
  · exact .inl h
  · exact .inr ⟨t, dx, od, vx, e1, e2, e.frz _ _ _ e3⟩
mutual
theorem Dat.mono {K : PySem.W.Frag} {H H' : Hp} (e : Ext H H') : ∀ (d : D) (v : V), Dat K H d v → Dat K H' d v
  | .non, v, h => by simpa [Dat] using h
  | .bl b, v, h => by simpa [Dat] using h
  | .int i, v, h => by simpa [Dat] using h
  | .str x, v, h => by simpa [Dat] using h
  | .ty n, v, h => by simpa [Dat] using h
  | .ref a, v, h => by simpa [Dat] using h
  | .tup ds, v, h => by
    obtain ⟨a, xs, e1, e2, e3⟩ := (show ∃ a xs, v = .ref a ∧ H a = some (.tup xs) ∧ Dats K H ds xs from by simpa only [Dat] using h)
    have := Dats.mono e ds xs e3
    simp only [Dat]
    exact ⟨a, xs, e1, e.tup _ _ e2, this⟩
  | .frl ds, v, h => by
    obtain ⟨a, xs, e1, e2, e3⟩ := (show ∃ a xs, v = .ref a ∧ Fz K H a xs ∧ Dats K H ds xs from by simpa only [Dat] using h)
    have := Dats.mono e ds xs e3
    simp only [Dat]
    exact ⟨a, xs, e1, e2.mono e, this⟩
  | .thg n, v, h => by
    obtain ⟨a, o, u, e1, e2, e3⟩ := (show ∃ a o u, v = .ref a ∧ H a = some (.frz o u) ∧ o.cls = .type n from by simpa only [Dat] using h)
    simp only [Dat]
    exact ⟨a, o, u, e1, e.frz _ _ _ e2, e3⟩
  | .exc C nm ds, v, h => by
    obtain ⟨a, o, u, xs, e1, e2, e3, e4⟩ := (show ∃ a o u xs, v = .ref a ∧ H a = some (.frz o u) ∧ Xo H C nm o xs ∧ Dats K H ds xs from by simpa only [Dat] using h)
    have := Dats.mono e ds xs e4
    simp only [Dat]
    exact ⟨a, o, u, xs, e1, e.frz _ _ _ e2, e3.mono e, this⟩
theorem Dats.mono {K : PySem.W.Frag} {H H' : Hp} (e : Ext H H') : ∀ (ds : List D) (xs : List V), Dats K H ds xs → Dats K H' ds xs
  | [], xs, h => by simpa [Dats] using h
  | d :: ds, xs, h => by
    obtain ⟨v, vs, e1, e2, e3⟩ := (show ∃ v vs, xs = v :: vs ∧ Dat K H d v ∧ Dats K H ds vs from by simpa only [Dats] using h)
    have h1 := Dat.mono e d v e2
    have h2 := Dats.mono e ds vs e3
    simp only [Dats]
    exact ⟨v, vs, e1, h1, h2⟩
end
section
variable {K : PySem.W.Frag} {H : Hp}
theorem dat_non {v : V} : Dat K H .non v ↔ v = .non := by simp only [Dat]
theorem dat_bl {b : Bool} {v : V} : Dat K H (.bl b) v ↔ v = .bl b := by simp only [Dat]
theorem dat_int {i : Int} {v : V} : Dat K H (.int i) v ↔ v = .int i := by simp only [Dat]
theorem dat_str {x : Str} {v : V} : Dat K H (.str x) v ↔ v = .str x := by simp only [Dat]
theorem dat_ty {n : String} {v : V} : Dat K H (.ty n) v ↔ v = .ty n := by simp only [Dat]
theorem dat_ref {a : Addr} {v : V} : Dat K H (.ref a) v ↔ v = .ref a := by simp only [Dat]
theorem dat_tup {ds : List D} {v : V} : Dat K H (.tup ds) v ↔ ∃ a xs, v = .ref a ∧ H a = some (.tup xs) ∧ Dats K H ds xs := by simp only [Dat]
theorem dat_frl {ds : List D} {v : V} : Dat K H (.frl ds) v ↔ ∃ a xs, v = .ref a ∧ Fz K H a xs ∧ Dats K H ds xs := by simp only [Dat]
theorem dat_thg {n : String} {v : V} : Dat K H (.thg n) v ↔ ∃ a o u, v = .ref a ∧ H a = some (.frz o u) ∧ o.cls = .type n := by simp only [Dat]
theorem dats_nil {xs : List V} : Dats K H [] xs ↔ xs = [] := by simp only [Dats]
theorem dats_cons {d : D} {ds : List D} {xs : List V} : Dats K H (d :: ds) xs ↔ ∃ v vs, xs = v :: vs ∧ Dat K H d v ∧ Dats K H ds vs := by simp only [Dats]
theorem Dats.length : ∀ {ds : List D} {xs : List V}, Dats K H ds xs → ds.length = xs.length
  | [], xs, h => by rw [dats_nil.mp h]; rfl
  | d :: ds, xs, h => by
    obtain ⟨v, vs, rfl, _, h⟩ := dats_cons.mp h
    simp [Dats.length h]
theorem Dats.get : ∀ {ds : List D} {xs : List V} {i : Nat} {d : D}, Dats K H ds xs → ds[i]? = some d → ∃ v, xs[i]? = some v ∧ Dat K H d v
  | [], xs, _, _, _, e => by simp at e
  | d :: ds, xs, i, d', h, e => by
    obtain ⟨v, vs, rfl, h1, h2⟩ := dats_cons.mp h
    cases i with
    | zero => simp at e; subst e; exact ⟨v, rfl, h1⟩
    | succ i => exact Dats.get (i := i) h2 (by simpa using e)
theorem Dats.back : ∀ {ds : List D} {xs : List V} {i : Nat} {v : V}, Dats K H ds xs → xs[i]? = some v → ∃ d, ds[i]? = some d ∧ Dat K H d v
  | [], xs, i, v, h, e => by rw [dats_nil.mp h] at e; simp at e
  | d :: ds, xs, i, v', h, e => by
    obtain ⟨v, vs, rfl, h1, h2⟩ := dats_cons.mp h
    cases i with
    | zero => simp at e; subst e; exact ⟨d, rfl, h1⟩
    | succ i => exact Dats.back (i := i) h2 (by simpa using e)
theorem Dats.append : ∀ {ds es : List D} {xs ys : List V}, Dats K H ds xs → Dats K H es ys → Dats K H (ds ++ es) (xs ++ ys)
  | [], es, xs, ys, h, h' => by rw [dats_nil.mp h]; exact h'
  | d :: ds, es, xs, ys, h, h' => by
    obtain ⟨v, vs, rfl, h1, h2⟩ := dats_cons.mp h
    exact dats_cons.mpr ⟨v, vs ++ ys, rfl, h1, h2.append h'⟩
theorem Dats.one {d : D} {v : V} (h : Dat K H d v) : Dats K H [d] [v] := dats_cons.mpr ⟨v, [], rfl, h, dats_nil.mpr rfl⟩
end
inductive MO where
  | lst (ds : List D)
  | dic (kvs : List (List (List Int) × D))
abbrev Mp := Addr → Option MO
def updM (M : Mp) (a : Addr) (o : MO) : Mp := fun b => if b = a then some o else M b
def noM : Mp := fun _ => none
theorem updM_same {M : Mp} {a : Addr} {o : MO} : updM M a o a = some o := by unfold updM; rw [if_pos rfl]
theorem updM_ne {M : Mp} {a b : Addr} {o : MO} (h : b ≠ a) : updM M a o b = M b := by unfold updM; rw [if_neg h]
theorem updM_old {M : Mp} {a b : Addr} {o u : MO} (h : M b = some o) (n : M a = none) : updM M a u b = some o := by
  rw [updM_ne (fun e => by subst e; rw [h] at n; cases n)]; exact h
def Le (M M' : Mp) : Prop := ∀ a o, M a = some o → M' a = some o
theorem Le.refl (M : Mp) : Le M M := fun _ _ h => h
theorem Le.trans {M M1 M2 : Mp} (a : Le M M1) (b : Le M1 M2) : Le M M2 := fun c o h => b c o (a c o h)
theorem Le.no (M : Mp) : Le noM M := fun _ _ h => by cases h
theorem Le.new {M : Mp} {a : Addr} {o : MO} (n : M a = none) : Le M (updM M a o) := fun _ _ h => updM_old h n
def hK2 (ks : List (List Int)) : Int := reduceHash (Builtin.Tuple.tupleHashOf (ks.map fun k => reduceHash (Builtin.Tuple.tupleHashOf (k.map hashInt))))
abbrev DX := List (List (List Int) × Addr × Value)
def entK (x : List (List Int) × Addr × Value) : DictEntry := ⟨hK2 x.1, .ref x.2.1, x.2.2⟩
def DicO (a : Addr) (xs : DX) : Heap → Prop := fun h => ∃ o es ep, h.get? a = some o ∧ o.ExactDict ∧ o.data = .dict es ep ∧ es.toList = xs.map entK
def kD (k : List (List Int)) : D := .tup (k.map fun l => .tup (l.map .int))
def KvOk (K : PySem.W.Frag) (H : Hp) (p : List (List Int) × D) (x : List (List Int) × Addr × Value) : Prop := p.1 = x.1 ∧ Dat K H (kD p.1) (.ref x.2.1) ∧ ∃ v, Dat K H p.2 v ∧ RelV v x.2.2
theorem KvOk.mono {K : PySem.W.Frag} {H H' : Hp} (e : Ext H H') {p : List (List Int) × D} {x : List (List Int) × Addr × Value} (h : KvOk K H p x) : KvOk K H' p x := by
  obtain ⟨h1, h2, v, h3, h4⟩ := h
  exact ⟨h1, Dat.mono e _ _ h2, v, Dat.mono e _ _ h3, h4⟩
def MOk (K : PySem.W.Frag) (H : Hp) (a : Addr) : MO → Prop
  | .lst ds => ∃ xs, H a = some (.lst xs) ∧ Dats K H ds xs
  | .dic kvs => ∃ xs : DX, H a = some (.ext (DicO a xs)) ∧ (a == sysModules) = false ∧ (xs.map (·.1)).Nodup ∧ Paired (KvOk K H) kvs xs
theorem MOk.mono {K : PySem.W.Frag} {H H' : Hp} {a : Addr} {o : MO} (h : MOk K H a o) (e : Ext H H') (s : ∀ u, H a = some u → H' a = some u) : MOk K H' a o := by
  cases o with
  | lst ds =>
    obtain ⟨xs, e1, e2⟩ := h
    exact ⟨xs, s _ e1, Dats.mono e _ _ e2⟩
  | dic kvs =>
    obtain ⟨xs, e1, y, nd, p⟩ := h
    exact ⟨xs, s _ e1, y, nd, Paired.mapP p fun _ _ z => z.mono e⟩
theorem MOk.has {K : PySem.W.Frag} {H : Hp} {a : Addr} {o : MO} (h : MOk K H a o) : ∃ u, H a = some u ∧ ((∃ xs, u = .lst xs) ∨ ∃ φ, u = .ext φ) := by
  cases o with
  | lst ds =>
    obtain ⟨xs, e1, _⟩ := h
    exact ⟨_, e1, .inl ⟨_, rfl⟩⟩
  | dic kvs =>
    obtain ⟨xs, e1, _⟩ := h
    exact ⟨_, e1, .inr ⟨_, rfl⟩⟩
def RepM (K : PySem.W.Frag) (H : Hp) (M : Mp) : Prop := ∀ a o, M a = some o → MOk K H a o
theorem RepM.no {K : PySem.W.Frag} {H : Hp} : RepM K H noM := fun _ _ h => by cases h
theorem RepM.le {K : PySem.W.Frag} {H : Hp} {M M' : Mp} (h : RepM K H M') (l : Le M M') : RepM K H M := fun a o e => h a o (l a o e)
theorem RepM.lst {K : PySem.W.Frag} {H : Hp} {M : Mp} {a : Addr} {ds : List D} (h : RepM K H M) (e : M a = some (.lst ds)) : ∃ xs, H a = some (.lst xs) ∧ Dats K H ds xs := h a _ e
theorem RepM.free {K : PySem.W.Frag} {H : Hp} {M : Mp} {a : Addr} (h : RepM K H M) (e : H a = none) : M a = none := by
  cases q : M a with
  | none => rfl
  | some o =>
    obtain ⟨u, e', _⟩ := (h a o q).has
    rw [e] at e'; cases e'
theorem RepM.notLst {K : PySem.W.Frag} {H : Hp} {M : Mp} {a : Addr} {u : HO} (h : RepM K H M) (e : H a = some u) (n : ∀ xs, u ≠ .lst xs) (n2 : ∀ φ, u ≠ .ext φ := by intro _ z; cases z) : M a = none := by
  cases q : M a with
  | none => rfl
  | some o =>
    obtain ⟨u', e', h'⟩ := (h a o q).has
    rw [e] at e'
    cases e'
    rcases h' with ⟨xs, z⟩ | ⟨φ, z⟩
    · exact absurd z (n xs)
    · exact absurd z (n2 φ)
def Fr (M : Mp) (H : Hp) (M' : Mp) (H' : Hp) : Prop := ∀ b o, M b = none → H b = some o → H' b = some o ∧ M' b = none
theorem Fr.refl (M : Mp) (H : Hp) : Fr M H M H := fun _ _ n e => ⟨e, n⟩
theorem Fr.trans {M M1 M2 : Mp} {H H1 H2 : Hp} (a : Fr M H M1 H1) (b : Fr M1 H1 M2 H2) : Fr M H M2 H2 := fun c o n e =>
  let ⟨e1, n1⟩ := a c o n e
  b c o n1 e1
theorem Fr.le {M M1 M2 : Mp} {H H1 : Hp} (a : Fr M H M1 H1) (l : Le M2 M1) : Fr M H M2 H1 := fun b o n e => by
  obtain ⟨e1, n1⟩ := a b o n e
  refine ⟨e1, ?_⟩
  cases q : M2 b with
  | none => rfl
  | some u => rw [l b u q] at n1; cases n1
theorem Fr.ext {K : PySem.W.Frag} {M M' : Mp} {H H' : Hp} (f : Fr M H M' H') (r : RepM K H M) : Ext H H' :=
  ⟨fun b xs e => (f b _ (r.notLst e (fun _ z => by cases z)) e).1, fun b o u e => (f b _ (r.notLst e (fun _ z => by cases z)) e).1⟩
theorem Ext.new {H : Hp} {p : Addr} {o : HO} (n : H p = none) : Ext H (upd H p o) :=
  ⟨fun b xs e => by rw [upd_ne (ne_of_none e n)]; exact e, fun b o' u e => by rw [upd_ne (ne_of_none e n)]; exact e⟩
theorem Fr.new {M M' : Mp} {H : Hp} {p : Addr} {o : HO} (n : H p = none) (h : ∀ b, b ≠ p → M' b = M b) : Fr M H M' (upd H p o) := fun b u m e => by
  have hb : b ≠ p := ne_of_none e n
  rw [upd_ne hb, h b hb]
  exact ⟨e, m⟩
theorem Fr.write {K : PySem.W.Frag} {M : Mp} {H : Hp} {p : Addr} {o : HO} {u : MO} {v : MO} (m : M p = some u) : Fr M H (updM M p v) (upd H p o) := fun b w n e => by
  have hb : b ≠ p := fun z => by subst z; rw [m] at n; cases n
  rw [upd_ne hb, updM_ne hb]
  exact ⟨e, n⟩
theorem RepM.new {K : PySem.W.Frag} {M : Mp} {H : Hp} {p : Addr} {o : HO} (r : RepM K H M) (n : H p = none) : RepM K (upd H p o) M := fun a u e =>
  (r a u e).mono (Ext.new n) fun v q => by rw [upd_ne (ne_of_none q n)]; exact q
theorem Ext.writeL {H : Hp} {p : Addr} {xs ys : List V} (h : H p = some (.lst xs)) : Ext H (upd H p (.lst ys)) :=
  ⟨fun b zs e => by rw [upd_ne (ne_of e h (by intro z; cases z))]; exact e, fun b o u e => by rw [upd_ne (ne_of e h (by intro z; cases z))]; exact e⟩
theorem RepM.newL {K : PySem.W.Frag} {M : Mp} {H : Hp} {p : Addr} {xs : List V} {ds : List D} (r : RepM K H M) (n : H p = none) (d : Dats K H ds xs) : RepM K (upd H p (.lst xs)) (updM M p (.lst ds)) := fun a u e => by
  by_cases ha : a = p
  · subst ha
    rw [updM_same] at e; cases e
    exact ⟨xs, upd_same, Dats.mono (Ext.new n) _ _ d⟩
  · rw [updM_ne ha] at e
    exact r.new n a u e
theorem RepM.writeL {K : PySem.W.Frag} {M : Mp} {H : Hp} {p : Addr} {xs ys : List V} {ds : List D} (r : RepM K H M) (h : H p = some (.lst xs)) (d : Dats K H ds ys) : RepM K (upd H p (.lst ys)) (updM M p (.lst ds)) := fun a u e => by
  by_cases ha : a = p
  · subst ha
    rw [updM_same] at e; cases e
    exact ⟨ys, upd_same, Dats.mono (Ext.writeL h) _ _ d⟩
  · rw [updM_ne ha] at e
    exact (r a u e).mono (Ext.writeL h) fun v q => by rw [upd_ne ha]; exact q
theorem Ext.writeD {H : Hp} {p : Addr} {φ : Heap → Prop} {o : HO} (h : H p = some (.ext φ)) : Ext H (upd H p o) :=
  ⟨fun b zs e => by rw [upd_ne (ne_of e h (by intro z; cases z))]; exact e, fun b o u e => by rw [upd_ne (ne_of e h (by intro z; cases z))]; exact e⟩
theorem RepM.newD {K : PySem.W.Frag} {M : Mp} {H : Hp} {p : Addr} (r : RepM K H M) (n : H p = none) (y : (p == sysModules) = false) : RepM K (upd H p (.ext (DicO p []))) (updM M p (.dic [])) := fun a u e => by
  by_cases ha : a = p
  · subst ha
    rw [updM_same] at e; cases e
    exact ⟨[], upd_same, y, List.nodup_nil, .nil⟩
  · rw [updM_ne ha] at e
    exact r.new n a u e
theorem RepM.dic {K : PySem.W.Frag} {H : Hp} {M : Mp} {a : Addr} {kvs : List (List (List Int) × D)} (h : RepM K H M) (e : M a = some (.dic kvs)) : ∃ xs : DX, H a = some (.ext (DicO a xs)) ∧ (a == sysModules) = false ∧ (xs.map (·.1)).Nodup ∧ Paired (KvOk K H) kvs xs := h a _ e
theorem RepM.writeD {K : PySem.W.Frag} {M : Mp} {H : Hp} {p : Addr} {φ : Heap → Prop} {xs : DX} {kvs : List (List (List Int) × D)} (r : RepM K H M) (h : H p = some (.ext φ)) (y : (p == sysModules) = false) (nd : (xs.map (·.1)).Nodup) (d : Paired (KvOk K H) kvs xs) :
    RepM K (upd H p (.ext (DicO p xs))) (updM M p (.dic kvs)) := fun a u e => by
  by_cases ha : a = p
  · subst ha
    rw [updM_same] at e; cases e
    exact ⟨xs, upd_same, y, nd, Paired.mapP d fun _ _ z => z.mono (Ext.writeD h)⟩
  · rw [updM_ne ha] at e
    exact (r a u e).mono (Ext.writeD h) fun v q => by rw [upd_ne ha]; exact q
abbrev En := List (Option D)
structure Rep (K : PySem.W.Frag) (H : Hp) (σ : St) (ρ : En) (M : Mp) : Prop where
  env : ∀ (i : Nat) d, ρ[i]? = some (some d) → ∃ v, σ[i]? = some (some v) ∧ Dat K H d v
  len : ρ.length = σ.length
  mem : RepM K H M
theorem Rep.go {K : PySem.W.Frag} {H H' : Hp} {σ : St} {ρ : En} {M M' : Mp} (r : Rep K H σ ρ M) (f : Fr M H M' H') (r' : RepM K H' M') : Rep K H' σ ρ M' :=
  ⟨fun i d e => let ⟨v, e1, e2⟩ := r.env i d e; ⟨v, e1, Dat.mono (f.ext r.mem) _ _ e2⟩, r.len, r'⟩
theorem Rep.set {K : PySem.W.Frag} {H : Hp} {σ : St} {ρ : En} {M : Mp} {i : Nat} {d : D} {v : V} (r : Rep K H σ ρ M) (h : Dat K H d v) : Rep K H (σ.set i (some v)) (ρ.set i (some d)) M := by
  refine ⟨fun j e q => ?_, by simp [r.len], r.mem⟩
  by_cases hj : i = j
  · subst hj
    by_cases hl : i < ρ.length
    · rw [List.getElem?_set_self hl] at q
      cases q
      exact ⟨v, List.getElem?_set_self (by rw [← r.len]; exact hl), h⟩
    · rw [List.getElem?_eq_none (by simp; omega)] at q; cases q
  · rw [List.getElem?_set_ne hj] at q ⊢
    exact r.env j e q
abbrev DK := D → Mp → Prop
abbrev TE3 := En → Mp → DK → Prop
abbrev TT3 := En → Mp → (Bool → Mp → Prop) → Prop
abbrev TA3 := En → Mp → (List D → Mp → Prop) → Prop
def Post (K : PySem.W.Frag) (M : Mp) (H : Hp) (Q : DK) : VK := fun v H' => ∃ d M', Fr M H M' H' ∧ Dat K H' d v ∧ RepM K H' M' ∧ Q d M'
def PostB (K : PySem.W.Frag) (M : Mp) (H : Hp) (Q : Bool → Mp → Prop) : Bool → Hp → Prop := fun b H' => ∃ M', Fr M H M' H' ∧ RepM K H' M' ∧ Q b M'
def PostA (K : PySem.W.Frag) (M : Mp) (H : Hp) (Q : List D → Mp → Prop) : List V → Hp → Prop := fun vs H' => ∃ ds M', Fr M H M' H' ∧ Dats K H' ds vs ∧ RepM K H' M' ∧ Q ds M'
structure PE3 (X : Cx) (e : Expr) (t : TE3) : Prop where
  run : ∀ (pins : List (Addr × Obj)) (s : Shared) (σ : St) (H : Hp) (ρ : En) (M : Mp) (Q : DK), Inv X pins σ H s → Rep X.K H σ ρ M → t ρ M Q → wpAny (model X.prog X.w) X.A (eval e X.env) (EP X pins σ (Post X.K M H Q)) X.xe s
structure PT3 (X : Cx) (e : Expr) (t : TT3) : Prop where
  run : ∀ (pins : List (Addr × Obj)) (s : Shared) (σ : St) (H : Hp) (ρ : En) (M : Mp) (Q : Bool → Mp → Prop), Inv X pins σ H s → Rep X.K H σ ρ M → t ρ M Q → wpAny (model X.prog X.w) X.A (isTrue e X.env (eval e X.env)) (TP X pins σ (PostB X.K M H Q)) X.xe s
structure PW3 (X : Cx) (e : Expr) (t : TT3) : Prop where
  run : ∀ (whole : Sem Value) (pins : List (Addr × Obj)) (s : Shared) (σ : St) (H : Hp) (ρ : En) (M : Mp) (Q : Bool → Mp → Prop), Inv X pins σ H s → Rep X.K H σ ρ M → t ρ M Q → wpAny (model X.prog X.w) X.A (isTrue e X.env whole) (TP X pins σ (PostB X.K M H Q)) X.xe s
theorem PW3.pt {X : Cx} {e : Expr} {t : TT3} (h : PW3 X e t) : PT3 X e t := ⟨h.run _⟩
structure PA3 (X : Cx) (es : List Expr) (t : TA3) : Prop where
  run : ∀ (pos : Pos) (pins : List (Addr × Obj)) (s : Shared) (σ : St) (H : Hp) (ρ : En) (M : Mp) (Q : List D → Mp → Prop), Inv X pins σ H s → Rep X.K H σ ρ M → t ρ M Q → wpAny (model X.prog X.w) X.A (spliced (backTo pos (starEach es X.env))) (AP X pins σ (PostA X.K M H Q)) X.xe s
structure En3 where
  nx : En → Mp → Prop
  rt : DK
  bk : En → Mp → Prop := fun _ _ => False
  ct : En → Mp → Prop := fun _ _ => False
abbrev TS3 := En3 → En → Mp → Prop
def PostN (K : PySem.W.Frag) (M : Mp) (H : Hp) (Q : En → Mp → Prop) : St → Hp → Prop := fun σ' H' => ∃ ρ' M', Fr M H M' H' ∧ Rep K H' σ' ρ' M' ∧ Q ρ' M'
def ends (K : PySem.W.Frag) (M : Mp) (H : Hp) (D : En3) : Ends := { nx := PostN K M H D.nx, rt := Post K M H D.rt, bk := PostN K M H D.bk, ct := PostN K M H D.ct }
structure PS3 (X : Cx) (st : Stmt) (t : TS3) : Prop where
  run : ∀ (pins : List (Addr × Obj)) (s : Shared) (σ : St) (H : Hp) (ρ : En) (M : Mp) (D : En3), Inv X pins σ H s → Rep X.K H σ ρ M → t D ρ M → wpAny (model X.prog X.w) X.A (exec st X.env) (SP X pins (ends X.K M H D)) X.xe s
structure PSs3 (X : Cx) (st : List Stmt) (t : TS3) : Prop where
  run : ∀ (pins : List (Addr × Obj)) (s : Shared) (σ : St) (H : Hp) (ρ : En) (M : Mp) (D : En3), Inv X pins σ H s → Rep X.K H σ ρ M → t D ρ M → wpAny (model X.prog X.w) X.A (execs st X.env) (SP X pins (ends X.K M H D)) X.xe s
section
variable {X : Cx}
theorem up {e : Expr} {te : TE} {t : TE3} (h : PE X e te) (g : ∀ σ H ρ M Q, Rep X.K H σ ρ M → t ρ M Q → te σ H (Post X.K M H Q)) : PE3 X e t :=
  ⟨fun pins s σ H ρ M Q I r q => h pins s σ H _ I (g σ H ρ M Q r q)⟩
theorem upT {e : Expr} {te : TT} {t : TT3} (h : PT X e te) (g : ∀ σ H ρ M Q, Rep X.K H σ ρ M → t ρ M Q → te σ H (PostB X.K M H Q)) : PT3 X e t :=
  ⟨fun pins s σ H ρ M Q I r q => h pins s σ H _ I (g σ H ρ M Q r q)⟩
theorem upS {st : Stmt} {te : TS} {t : TS3} (h : PS X st te) (g : ∀ σ H ρ M D, Rep X.K H σ ρ M → t D ρ M → te (ends X.K M H D) σ H) : PS3 X st t :=
  ⟨fun pins s σ H ρ M D I r q => h pins s σ H _ I (g σ H ρ M D r q)⟩
def dn (K : PySem.W.Frag) (t : TE3) : TE := fun σ H Q' => ∃ ρ M Q, Rep K H σ ρ M ∧ t ρ M Q ∧ ∀ v H', Post K M H Q v H' → Q' v H'
def dnT (K : PySem.W.Frag) (t : TT3) : TT := fun σ H Q' => ∃ ρ M Q, Rep K H σ ρ M ∧ t ρ M Q ∧ ∀ v H', PostB K M H Q v H' → Q' v H'
def dnA (K : PySem.W.Frag) (t : TA3) : TA := fun σ H Q' => ∃ ρ M Q, Rep K H σ ρ M ∧ t ρ M Q ∧ ∀ v H', PostA K M H Q v H' → Q' v H'
def dnS (K : PySem.W.Frag) (t : TS3) : TS := fun D' σ H => ∃ ρ M D, Rep K H σ ρ M ∧ t D ρ M ∧ (∀ σ' H', PostN K M H D.nx σ' H' → D'.nx σ' H') ∧ (∀ v H', Post K M H D.rt v H' → D'.rt v H') ∧ (∀ σ' H', PostN K M H D.bk σ' H' → D'.bk σ' H') ∧ (∀ σ' H', PostN K M H D.ct σ' H' → D'.ct σ' H')
theorem PE3.dn {e : Expr} {t : TE3} (h : PE3 X e t) : PE X e (dn X.K t) := fun pins s σ H Q' I ⟨ρ, M, Q, r, q, k⟩ =>
  thn (h.run pins s σ H ρ M Q I r q) fun _ _ ⟨v, H', I', rv, p⟩ => ⟨v, H', I', rv, k v H' p⟩
theorem PT3.dn {e : Expr} {t : TT3} (h : PT3 X e t) : PT X e (dnT X.K t) := fun pins s σ H Q' I ⟨ρ, M, Q, r, q, k⟩ =>
  thn (h.run pins s σ H ρ M Q I r q) fun _ _ ⟨H', I', p⟩ => ⟨H', I', k _ H' p⟩
theorem PW3.dn {e : Expr} {t : TT3} (h : PW3 X e t) : PW X e (dnT X.K t) := fun wh pins s σ H Q' I ⟨ρ, M, Q, r, q, k⟩ =>
  thn (h.run wh pins s σ H ρ M Q I r q) fun _ _ ⟨H', I', p⟩ => ⟨H', I', k _ H' p⟩
theorem PA3.dn {es : List Expr} {t : TA3} (h : PA3 X es t) : PA X es (dnA X.K t) := fun pos pins s σ H Q' I ⟨ρ, M, Q, r, q, k⟩ =>
  thn (h.run pos pins s σ H ρ M Q I r q) fun _ _ ⟨vs, H', I', rv, p⟩ => ⟨vs, H', I', rv, k vs H' p⟩
theorem PSs3.dn {sts : List Stmt} {t : TS3} (h : PSs3 X sts t) : PSs X sts (dnS X.K t) := fun pins s σ H D' I ⟨ρ, M, D, r, q, k1, k2, k3, k4⟩ =>
  thn (h.run pins s σ H ρ M D I r q) fun f s' z => by
    cases f with
    | next => obtain ⟨σ', H', I', p⟩ := z; exact ⟨σ', H', I', k1 _ _ p⟩
    | brk => obtain ⟨σ', H', I', p⟩ := z; exact ⟨σ', H', I', k3 _ _ p⟩
    | cont => obtain ⟨σ', H', I', p⟩ := z; exact ⟨σ', H', I', k4 _ _ p⟩
    | ret u => obtain ⟨v, σ', H', I', rv, p⟩ := z; exact ⟨v, σ', H', I', rv, k2 _ _ p⟩
theorem dn_of {K : PySem.W.Frag} {t : TE3} {σ : St} {H : Hp} {ρ : En} {M : Mp} {Q : DK} {Q' : VK} (r : Rep K H σ ρ M) (q : t ρ M Q) (k : ∀ v H' d M', Fr M H M' H' → Dat K H' d v → Rep K H' σ ρ M' → Q d M' → Q' v H') : dn K t σ H Q' :=
  ⟨ρ, M, Q, r, q, fun v H' ⟨d, M', f, dv, rm, p⟩ => k v H' d M' f dv (r.go f rm) p⟩
theorem dnT_of {K : PySem.W.Frag} {t : TT3} {σ : St} {H : Hp} {ρ : En} {M : Mp} {Q : Bool → Mp → Prop} {Q' : Bool → Hp → Prop} (r : Rep K H σ ρ M) (q : t ρ M Q) (k : ∀ b H' M', Fr M H M' H' → Rep K H' σ ρ M' → Q b M' → Q' b H') : dnT K t σ H Q' :=
  ⟨ρ, M, Q, r, q, fun b H' ⟨M', f, rm, p⟩ => k b H' M' f (r.go f rm) p⟩
theorem dnA_of {K : PySem.W.Frag} {t : TA3} {σ : St} {H : Hp} {ρ : En} {M : Mp} {Q : List D → Mp → Prop} {Q' : List V → Hp → Prop} (r : Rep K H σ ρ M) (q : t ρ M Q) (k : ∀ vs H' ds M', Fr M H M' H' → Dats K H' ds vs → Rep K H' σ ρ M' → Q ds M' → Q' vs H') : dnA K t σ H Q' :=
  ⟨ρ, M, Q, r, q, fun v H' ⟨d, M', f, dv, rm, p⟩ => k v H' d M' f dv (r.go f rm) p⟩
theorem post_self {K : PySem.W.Frag} {M : Mp} {H : Hp} {Q : DK} {d : D} {v : V} (rm : RepM K H M) (h : Dat K H d v) (q : Q d M) : Post K M H Q v H := ⟨d, M, .refl _ _, h, rm, q⟩
theorem Post.back {K : PySem.W.Frag} {M M1 : Mp} {H H1 : Hp} {Q : DK} {v : V} {H' : Hp} (f : Fr M H M1 H1) (p : Post K M1 H1 Q v H') : Post K M H Q v H' := by
  obtain ⟨d, M', f', dv, rm, q⟩ := p
  exact ⟨d, M', f.trans f', dv, rm, q⟩
theorem PostB.back {K : PySem.W.Frag} {M M1 : Mp} {H H1 : Hp} {Q : Bool → Mp → Prop} {b : Bool} {H' : Hp} (f : Fr M H M1 H1) (p : PostB K M1 H1 Q b H') : PostB K M H Q b H' := by
  obtain ⟨M', f', rm, q⟩ := p
  exact ⟨M', f.trans f', rm, q⟩
theorem PostN.back {K : PySem.W.Frag} {M M1 : Mp} {H H1 : Hp} {Q : En → Mp → Prop} {σ : St} {H' : Hp} (f : Fr M H M1 H1) (p : PostN K M1 H1 Q σ H') : PostN K M H Q σ H' := by
  obtain ⟨ρ', M', f', r, q⟩ := p
  exact ⟨ρ', M', f.trans f', r, q⟩
end
end L3
namespace L3
open PySem PySem.Spec PyProof.Rows L2
section
variable {X : Cx} {a b c : Expr} {ta tb tc : TE3} {pos : Pos}
def tVar3 (i : Nat) : TE3 := fun ρ M Q => ∃ d, ρ[i]? = some (some d) ∧ Q d M
def tC3 (d : D) : TE3 := fun _ M Q => Q d M
theorem q_var (i : Nat) {x : Str} {pos : Pos} (hN : X.N[i]? = some x := by rfl) (hv : Vis X.env.scope x := by first | exact Or.inl rfl | exact Or.inr (Or.inl rfl) | exact Or.inr (Or.inr rfl)) (hd : (x == ("__debug__" : Str)) = false := by decide)
    (hcd : (x == ("__classdict__" : Str)) = false := by decide) : PE3 X (.Name x pos) (tVar3 i) :=
  up (pe_var hN hv hd hcd) fun σ H ρ M Q r ⟨d, e, q⟩ => by
    obtain ⟨v, e1, e2⟩ := r.env i d e
    exact ⟨v, e1, post_self r.mem e2 q⟩
theorem q_int {i j pos} : PE3 X (.Constant (.int i) j pos) (tC3 (.int i)) := up pe_int fun _ _ _ _ _ r q => post_self r.mem (dat_int.mpr rfl) q
theorem q_bl {b j pos} : PE3 X (.Constant (.bool b) j pos) (tC3 (.bl b)) := up pe_bl fun _ _ _ _ _ r q => post_self r.mem (dat_bl.mpr rfl) q
theorem q_type {x : Str} {n : String} {pos : Pos} (hg : Gl X x) (hm : X.mg x = none) (hv : bootBuiltins x = some (.type n)) (hn : x ≠ "__name__" := by decide) (hd : (x == ("__debug__" : Str)) = false := by decide) : PE3 X (.Name x pos) (tC3 (.ty n)) :=
  up (pe_bltn (v := .ty n) hg hm hv rfl hn hd) fun _ _ _ _ _ r q => post_self r.mem (dat_ty.mpr rfl) q
abbrev R3 := D → D → Mp → DK → Prop
structure Op3 (X : Cx) (f : Value → Value → Sem Value) (t : R3) : Prop where
  run : ∀ (pins : List (Addr × Obj)) (s : Shared) (σ : St) (H : Hp) (M : Mp) (x y : V) (d e : D) (v u : Value) (Q : DK), Inv X pins σ H s → RepM X.K H M → RelV x v → RelV y u → Dat X.K H d x → Dat X.K H e y → t d e M Q →
    wpAny (model X.prog X.w) X.A (f v u) (EP X pins σ (Post X.K M H Q)) X.xe s
theorem op3 {f : Value → Value → Sem Value} {r : R2} {t : R3} (h : OpR X f r) (g : ∀ H M x y d e Q, RepM X.K H M → Dat X.K H d x → Dat X.K H e y → t d e M Q → r x y H (Post X.K M H Q)) : Op3 X f t :=
  ⟨fun pins s σ H M x y d e v u Q I rm rx ry dx dy q => h pins s σ H x y v u _ I rx ry (g H M x y d e Q rm dx dy q)⟩
def tBin (t : R3) (ta tb : TE3) : TE3 := fun ρ M Q => ta ρ M fun x M1 => tb ρ M1 fun y M2 => t x y M2 Q
theorem two3 (ha : PE3 X a ta) (hb : PE3 X b tb) {pins : List (Addr × Obj)} {s : Shared} {σ : St} {H : Hp} {ρ : En} {M : Mp} {R : D → D → Mp → Prop} (I : Inv X pins σ H s) (r : Rep X.K H σ ρ M)
    (h : ta ρ M fun x M1 => tb ρ M1 fun y M2 => R x y M2) {Q : Value → Shared → Prop} {f : Value → Value → Sem Value}
    (hf : ∀ v u s2 x y d e H2 M2, Inv X pins σ H2 s2 → Rep X.K H2 σ ρ M2 → Fr M H M2 H2 → RelV x v → RelV y u → Dat X.K H2 d x → Dat X.K H2 e y → R d e M2 → wpAny (model X.prog X.w) X.A (f v u) Q X.xe s2) :
    wpAny (model X.prog X.w) X.A (eval a X.env) (fun v s₁ => wpAny (model X.prog X.w) X.A (eval b X.env) (fun u s₂ => wpAny (model X.prog X.w) X.A (f v u) Q X.xe s₂) X.xe s₁) X.xe s := by
  refine thn (ha.run pins s σ H ρ M _ I r h) fun v s1 ⟨x, H1, I1, r1, d, M1, f1, d1, rm1, q1⟩ => ?_
  have R1 := r.go f1 rm1
  refine thn (hb.run pins s1 σ H1 ρ M1 _ I1 R1 q1) fun u s2 ⟨y, H2, I2, r2, e, M2, f2, d2, rm2, q2⟩ => ?_
  exact hf v u s2 x y d e H2 M2 I2 (R1.go f2 rm2) (f1.trans f2) r1 r2 (Dat.mono (f2.ext rm1) _ _ d1) d2 q2
theorem q_bin {op : Operator} {t : R3} (ho : Op3 X (binaryOp op) t) (ha : PE3 X a ta) (hb : PE3 X b tb) : PE3 X (.BinOp a op b pos) (tBin t ta tb) := by
  constructor
  intro pins s σ H ρ M Q I r h
  refine wpAny_BinOp (two3 ha hb I r h fun v u s2 x y d e H2 M2 I2 R2 f rx ry dx dy q => ?_)
  exact thn (ho.run pins s2 σ H2 M2 x y d e v u Q I2 R2.mem rx ry dx dy q) fun _ _ ⟨z, H3, I3, r3, p⟩ => ⟨z, H3, I3, r3, p.back f⟩
theorem q_cmp {op : CmpOp} {t : R3} (ho : Op3 X (compareOp op) t) (ha : PE3 X a ta) (hb : PE3 X b tb) (hm : behindInMarks op b = false) : PE3 X (.Compare a [op] [b] pos) (tBin t ta tb) := by
  constructor
  intro pins s σ H ρ M Q I r h
  refine wpAny_Compare1 (two3 ha hb I r h fun v u s2 x y d e H2 M2 I2 R2 f rx ry dx dy q => ?_) hm
  exact thn (ho.run pins s2 σ H2 M2 x y d e v u Q I2 R2.mem rx ry dx dy q) fun _ _ ⟨z, H3, I3, r3, p⟩ => ⟨z, H3, I3, r3, p.back f⟩
def tTest3 (t : TE3) : TT3 := fun ρ M Q => t ρ M fun x M' => ∃ k, x = .bl k ∧ Q k M'
theorem k_cmp {op : CmpOp} {t : R3} (ho : Op3 X (compareOp op) t) (ha : PE3 X a ta) (hb : PE3 X b tb) (hm : behindInMarks op b = false) : PT3 X (.Compare a [op] [b] pos) (tTest3 (tBin t ta tb)) := by
  constructor
  intro pins s σ H ρ M Q I r h
  refine wpAny_isTrue_Compare1 (thn (ha.run pins s σ H ρ M _ I r h) fun v s1 ⟨x, H1, I1, r1, d, M1, f1, d1, rm1, q1⟩ => thn (hb.run pins s1 σ H1 ρ M1 _ I1 (r.go f1 rm1) q1) fun u s2 ⟨y, H2, I2, r2, e, M2, f2, d2, rm2, q2⟩ =>
    thn (ho.run pins s2 σ H2 M2 x y d e v u _ I2 rm2 r1 r2 (Dat.mono (f2.ext rm1) _ _ d1) d2 q2) fun w s3 ⟨z, H3, I3, r3, dz, M3, f3, d3, rm3, k, ek, q3⟩ => ?_) hm
  subst ek
  obtain rfl := dat_bl.mp d3
  cases r3
  exact wpAny_truthy_bool ⟨H3, I3, M3, (f1.trans f2).trans f3, rm3, q3⟩
theorem k_val {e : Expr} {t : TE3} (h : PE3 X e t) (he : ∀ whole, isTrue e X.env whole = (do let v ← whole; standAt e.pos; holding [v] (truthy v)) := by intro _; rfl) : PT3 X e (tTest3 t) := by
  constructor
  intro pins s σ H ρ M Q I r hw
  refine isTrue_plain (thn (h.run pins s σ H ρ M _ I r hw) fun v s1 ⟨x, H1, I1, r1, d, M1, f1, d1, rm1, k, ek, q1⟩ => ?_) (he _)
  subst ek
  obtain rfl := dat_bl.mp d1
  cases r1
  exact wpAny_truthy_bool ⟨H1, I1, M1, f1, rm1, q1⟩
variable {tA tB : TT3} {rest : List Expr}
def tAnd3 (t u : TT3) : TT3 := fun ρ M Q => t ρ M fun c M1 => if c = true then u ρ M1 Q else Q false M1
def tOr3 (t u : TT3) : TT3 := fun ρ M Q => t ρ M fun c M1 => if c = true then Q true M1 else u ρ M1 Q
def tNot3 (t : TT3) : TT3 := fun ρ M Q => t ρ M fun c M1 => Q (!c) M1
theorem k_and1 (ha : PT3 X a tA) : PW3 X (.BoolOp .And [a] pos) tA := ⟨fun wh pins s σ H ρ M Q I r h => thn (pw_and1 ha.dn wh pins s σ H _ I ⟨ρ, M, Q, r, h, fun _ _ z => z⟩) fun _ _ z => z⟩
theorem k_or1 (ha : PT3 X a tA) : PW3 X (.BoolOp .Or [a] pos) tA := ⟨fun wh pins s σ H ρ M Q I r h => thn (pw_or1 ha.dn wh pins s σ H _ I ⟨ρ, M, Q, r, h, fun _ _ z => z⟩) fun _ _ z => z⟩
theorem k_and (ha : PT3 X a tA) (hb : PW3 X (.BoolOp .And (b :: rest) pos) tB) : PW3 X (.BoolOp .And (a :: b :: rest) pos) (tAnd3 tA tB) := ⟨fun wh pins s σ H ρ M Q I r h =>
  pw_and ha.dn hb.dn wh pins s σ H _ I (dnT_of r h fun c H' M' f r' q => by
    cases c with
    | true => exact ⟨ρ, M', Q, r', q, fun _ _ p => p.back f⟩
    | false => exact ⟨M', f, r'.mem, q⟩)⟩
theorem k_or (ha : PT3 X a tA) (hb : PW3 X (.BoolOp .Or (b :: rest) pos) tB) : PW3 X (.BoolOp .Or (a :: b :: rest) pos) (tOr3 tA tB) := ⟨fun wh pins s σ H ρ M Q I r h =>
  pw_or ha.dn hb.dn wh pins s σ H _ I (dnT_of r h fun c H' M' f r' q => by
    cases c with
    | true => exact ⟨M', f, r'.mem, q⟩
    | false => exact ⟨ρ, M', Q, r', q, fun _ _ p => p.back f⟩)⟩
theorem k_not (ha : PT3 X a tA) : PT3 X (.UnaryOp .Not a pos) (tNot3 tA) := upT (pt_not ha.dn) fun σ H ρ M Q r h => dnT_of r h fun _ _ M' f r' q => ⟨M', f, r'.mem, q⟩
def tAndV3 (ta tb : TE3) : TE3 := fun ρ M Q => ta ρ M fun x M1 => ∃ c, x = .bl c ∧ if c = true then tb ρ M1 Q else Q (.bl false) M1
theorem q_one {op} {t : TE3} (h : PE3 X a t) : PE3 X (.BoolOp op [a] pos) t := ⟨fun pins s σ H ρ M Q I r hw => BoolOp_one (h.run pins s σ H ρ M Q I r hw)⟩
theorem q_and (ha : PE3 X a ta) (hb : PE3 X (.BoolOp .And (b :: rest) pos) tb) : PE3 X (.BoolOp .And (a :: b :: rest) pos) (tAndV3 ta tb) := up (pe_and ha.dn hb.dn) fun σ H ρ M Q r h => dn_of r h fun v H' d M' f dv r' ⟨k, ek, q⟩ => by
  subst ek
  obtain rfl := dat_bl.mp dv
  refine ⟨k, rfl, ?_⟩
  cases k with
  | true => exact ⟨ρ, M', Q, r', q, fun _ _ p => p.back f⟩
  | false => exact ⟨.bl false, M', f, dat_bl.mpr rfl, r'.mem, q⟩
def tUn3 (t : D → Mp → DK → Prop) (ta : TE3) : TE3 := fun ρ M Q => ta ρ M fun x M1 => t x M1 Q
def rNeg : D → Mp → DK → Prop := fun d M Q => ∃ i, d = .int i ∧ Q (.int (-i)) M
theorem q_neg (ha : PE3 X a ta) : PE3 X (.UnaryOp .USub a pos) (tUn3 rNeg ta) := up (pe_un un_neg ha.dn) fun σ H ρ M Q r h => dn_of r h fun v H' d M' f dv r' ⟨i, ek, q⟩ => by
  subst ek
  obtain rfl := dat_int.mp dv
  exact ⟨i, rfl, .int (-i), M', f, dat_int.mpr rfl, r'.mem, q⟩
def Sm (n : Nat) (i : Int) : Prop := i.natAbs < 2 ^ n
def MulOk (i j : Int) : Prop := ∃ m n, Sm m i ∧ Sm n j ∧ m + n ≤ 100000
theorem log2_of_lt {k n : Nat} (h : k < 2 ^ n) : k.log2 ≤ n := by
  rcases Nat.eq_zero_or_pos k with z | z
  · subst z; simp
  · exact Nat.le_of_lt (by rw [Nat.log2_lt (by omega)]; exact h)
theorem bits_of {n : Nat} {i : Int} (h : Sm n i) : Builtin.Int.intBits i ≤ n + 1 := by
  unfold Builtin.Int.intBits
  have := log2_of_lt h
  first
    | (split <;> omega)
    | omega
theorem MulOk.ok {i j : Int} (h : MulOk i j) : IntMulOk i j := by
  obtain ⟨m, n, h1, h2, h3⟩ := h
  have b1 := bits_of h1
  have b2 := bits_of h2
  exact IntMulOk.of_bits (by omega) (by omega)
def rInt (g : Int → Int → Int) : R3 := fun d e M Q => ∃ i j, d = .int i ∧ e = .int j ∧ Q (.int (g i j)) M
def rIntC (C : Int → Int → Prop) (g : Int → Int → Int) : R3 := fun d e M Q => ∃ i j, d = .int i ∧ e = .int j ∧ C i j ∧ Q (.int (g i j)) M
def rIntB (g : Int → Int → Bool) : R3 := fun d e M Q => ∃ i j, d = .int i ∧ e = .int j ∧ Q (.bl (g i j)) M
theorem int3 {f : Value → Value → Sem Value} {g : Int → Int → Int} (h : OpR X f (rI0 fun i j => .int (g i j))) : Op3 X f (rInt g) := op3 h fun H M x y d e Q rm dx dy ⟨i, j, e1, e2, q⟩ => by
  subst e1; subst e2
  exact ⟨i, j, dat_int.mp dx, dat_int.mp dy, post_self rm (dat_int.mpr rfl) q⟩
theorem int3C {f : Value → Value → Sem Value} {C : Int → Int → Prop} {g : Int → Int → Int} (h : OpR X f (rI C fun i j => .int (g i j))) : Op3 X f (rIntC C g) := op3 h fun H M x y d e Q rm dx dy ⟨i, j, e1, e2, hc, q⟩ => by
  subst e1; subst e2
  exact ⟨i, j, dat_int.mp dx, dat_int.mp dy, hc, post_self rm (dat_int.mpr rfl) q⟩
theorem int3B {f : Value → Value → Sem Value} {g : Int → Int → Bool} (h : OpR X f (rI0 fun i j => .bl (g i j))) : Op3 X f (rIntB g) := op3 h fun H M x y d e Q rm dx dy ⟨i, j, e1, e2, q⟩ => by
  subst e1; subst e2
  exact ⟨i, j, dat_int.mp dx, dat_int.mp dy, post_self rm (dat_bl.mpr rfl) q⟩
theorem o_add : Op3 X (binaryOp .Add) (rInt fun i j => i + j) := int3 op_add
theorem o_sub : Op3 X (binaryOp .Sub) (rInt fun i j => i - j) := int3 op_sub
theorem o_mul : Op3 X (binaryOp .Mult) (rIntC MulOk fun i j => i * j) := int3C (opI fun _ _ _ _ _ _ _ hc q => mul_int q hc.ok)
theorem o_mod : Op3 X (binaryOp .Mod) (rIntC (fun _ j => 0 < j) fun i j => i % j) := int3C op_mod
def DivOk (_ j : Int) : Prop := 0 < j ∧ ∃ n, Sm n j ∧ n ≤ 8000
theorem o_fdiv : Op3 X (binaryOp .FloorDiv) (rIntC DivOk fun i j => i / j) := int3C (opI fun i j _ _ _ _ _ hc q => floordiv_int (by have := hc.1; omega) (by rw [Int.fdiv_eq_ediv_of_nonneg _ (by have := hc.1; omega)]; exact q) (.inl (PyProof.noPylong_of_log2 (by
  obtain ⟨_, n, h1, h2⟩ := hc
  have := log2_of_lt h1
  omega))))
def PowOk (i j : Int) : Prop := 0 ≤ j ∧ j ≤ 1000 ∧ i.natAbs < 2 ^ 400
theorem PowOk.bits {i j : Int} (h : PowOk i j) : (Builtin.Int.intBits i : Int) * j ≤ 2 ^ 27 := by
  have hb : Builtin.Int.intBits i ≤ 401 := bits_of (n := 400) h.2.2
  have h1 : (Builtin.Int.intBits i : Int) * j ≤ 401 * j := Int.mul_le_mul_of_nonneg_right (by omega) h.1
  have := h.2.1
  omega
theorem o_pow : Op3 X (binaryOp .Pow) (rIntC PowOk fun i j => i ^ j.toNat) := int3C (opI fun _ _ _ _ _ _ _ hc q => pow_int hc.1 hc.bits q)
theorem o_lt : Op3 X (compareOp .Lt) (rIntB fun i j => decide (i < j)) := int3B op_lt
theorem o_gt : Op3 X (compareOp .Gt) (rIntB fun i j => decide (j < i)) := int3B op_gt
inductive Sca where
  | non | bl (b : Bool) | int (i : Int) | str (x : Str)
  deriving DecidableEq
def Sca.d : Sca → D | .non => .non | .bl b => .bl b | .int i => .int i | .str x => .str x
def Sca.v : Sca → V | .non => .non | .bl b => .bl b | .int i => .int i | .str x => .str x
end
end L3
namespace L3
open PySem PySem.Spec PyProof.Rows L2
mutual
def eqD : D → D → Bool
  | .non, e => match e with | .non => true | _ => false
  | .bl a, e => match e with | .bl b => a == b | .int b => (if a then 1 else 0) == b | _ => false
  | .int a, e => match e with | .bl b => a == (if b then 1 else 0) | .int b => a == b | _ => false
  | .str a, e => match e with | .str b => a == b | _ => false
  | .tup as, e => match e with | .tup bs => eqDs as bs | _ => false
  | .ty _, _ => false
  | .ref _, _ => false
  | .frl _, _ => false
  | .thg _, _ => false
  | .exc _ _ _, _ => false
def eqDs : List D → List D → Bool
  | [], e => match e with | [] => true | _ => false
  | a :: as, e => match e with | [] => false | b :: bs => eqD a b && eqDs as bs
end
def plain : Nat → D → Bool
  | _, .non => true
  | _, .bl _ => true
  | _, .int _ => true
  | _, .str _ => true
  | n + 1, .tup ds => ds.all (plain n)
  | _, _ => false
theorem eqDs_nil : eqDs [] [] = true := by simp [eqDs]
theorem eqDs_cons (a b : D) (as bs : List D) : eqDs (a :: as) (b :: bs) = (eqD a b && eqDs as bs) := by simp [eqDs]
theorem eqD_tup (as bs : List D) : eqD (.tup as) (.tup bs) = eqDs as bs := by simp [eqD]
theorem eqD_int (a b : Int) : eqD (.int a) (.int b) = (a == b) := by simp [eqD]
theorem eqDs_all : ∀ (ds es : List D), eqDs ds es = ((List.range (min ds.length es.length)).all (fun j => eqD (ds.getD j .non) (es.getD j .non)) && (ds.length == es.length))
  | [], [] => by simp [eqDs]
  | [], e :: es => by simp [eqDs]
  | d :: ds, [] => by simp [eqDs]
  | d :: ds, e :: es => by
    rw [eqDs_cons, eqDs_all ds es]
    have h : min (d :: ds).length (e :: es).length = min ds.length es.length + 1 := by simp only [List.length_cons]; omega
    rw [h, List.range_succ_eq_map, List.all_cons, List.all_map]
    simp only [List.getD_cons_zero, List.length_cons]
    have h2 : ((fun j => eqD ((d :: ds).getD j D.non) ((e :: es).getD j D.non)) ∘ Nat.succ) = fun j => eqD (ds.getD j D.non) (es.getD j D.non) := by
      funext j; simp
    rw [h2]
    have h3 : (ds.length + 1 == es.length + 1) = (ds.length == es.length) := by
      rw [Bool.eq_iff_iff]; simp
    rw [h3, Bool.and_assoc]
theorem eqD_refl : ∀ (n : Nat) (d : D), plain n d = true → eqD d d = true := by
  intro n
  induction n with
  | zero => intro d h; cases d <;> simp [plain] at h <;> simp [eqD]
  | succ n ih =>
    intro d h
    cases d with
    | tup ds =>
      have h : ds.all (plain n) = true := by simpa [plain] using h
      rw [eqD_tup]
      have : ∀ (es : List D), es.all (plain n) = true → eqDs es es = true := by
        intro es
        induction es with
        | nil => intro _; exact eqDs_nil
        | cons e es ihe =>
          intro h
          rw [List.all_cons, Bool.and_eq_true] at h
          rw [eqDs_cons, ih e h.1, ihe h.2]; rfl
      exact this ds h
    | _ => first | (simp [plain] at h; done) | (simp [eqD]; done)
section
variable {K : PySem.W.Frag} {H : Hp}
theorem Dat.inj : ∀ (n : Nat) (d e : D) (v : V), plain n d = true → plain n e = true → Dat K H d v → Dat K H e v → d = e := by
  intro n
  induction n with
  | zero =>
    intro d e v pd pe hd he
    cases d <;> simp [plain] at pd <;> cases e <;> simp [plain] at pe <;> simp only [Dat] at hd he <;> subst hd <;> first | rfl | (injection he with z; rw [z]) | cases he
  | succ n ih =>
    intro d e v pd pe hd he
    have lists : ∀ (ds es : List D) (xs : List V), ds.all (plain n) = true → es.all (plain n) = true → Dats K H ds xs → Dats K H es xs → ds = es := by
      intro ds
      induction ds with
      | nil =>
        intro es xs _ _ h1 h2
        rw [dats_nil.mp h1] at h2
        cases es with
        | nil => rfl
        | cons e es => obtain ⟨_, _, z, _⟩ := dats_cons.mp h2; cases z
      | cons d ds ihd =>
        intro es xs p1 p2 h1 h2
        obtain ⟨v, vs, rfl, g1, g2⟩ := dats_cons.mp h1
        cases es with
        | nil => cases dats_nil.mp h2
        | cons e es =>
          obtain ⟨v', vs', z, g3, g4⟩ := dats_cons.mp h2
          injection z with z1 z2
          subst z1; subst z2
          rw [List.all_cons, Bool.and_eq_true] at p1 p2
          rw [ih d e v p1.1 p2.1 g1 g3, ihd es vs p1.2 p2.2 g2 g4]
    cases d with
    | tup ds =>
      obtain ⟨a, xs, rfl, ha, hx⟩ := dat_tup.mp hd
      cases e with
      | tup es =>
        obtain ⟨b, ys, z, hb, hy⟩ := dat_tup.mp he
        injection z with z
        subst z
        rw [ha] at hb
        injection hb with hb
        injection hb with hb
        subst hb
        rw [lists ds es xs (by simpa [plain] using pd) (by simpa [plain] using pe) hx hy]
      | _ => first | (simp [plain] at pe; done) | (simp only [Dat] at he; cases he)
    | _ => first
      | (simp [plain] at pd; done)
      | (cases e <;> first
          | (simp [plain] at pe; done)
          | (obtain ⟨b, ys, z, hb, hy⟩ := dat_tup.mp he; simp only [Dat] at hd; subst hd; cases z; done)
          | (simp only [Dat] at hd he; subst hd; first | rfl | (injection he with z; rw [z]) | cases he))
end
theorem all_get {α : Type} {p : α → Bool} {xs : List α} (h : xs.all p = true) {i : Nat} {x : α} (e : xs[i]? = some x) : p x = true := (List.all_eq_true.mp h) x (List.mem_of_getElem? e)
section
variable {X : Cx} {pins : List (Addr × Obj)} {σ : St} {H : Hp} {s : Shared}
theorem tup_at {P : Program} {w : World} {h : Heap} {a : Addr} {xs : List V} (ok : HOk P w H h) (e : H a = some (.tup xs)) : ∃ its : List Value, Vals xs its ∧ IsTup h a its.toArray ∧ xs.length ≤ sizeLine := by
  obtain ⟨z, its, r, p⟩ := (show ObjOk P w H h a (.tup xs) from ok a _ e)
  exact ⟨its, r, p, z⟩
theorem eqAt_D {P : Program} {w : World} (ok : HOk P w H s.heap) {K : PySem.W.Frag} : ∀ (n : Nat) (A : Around) (d e : D) (x y : V) (u v : Value), A.units + n < cLine → plain n d = true → plain n e = true → Dat K H d x → Dat K H e y → RelV x u → RelV y v → SeqAt.EqAt A s u v (eqD d e) := by
  intro n
  induction n with
  | zero =>
    intro A d e x y u v hu pd pe dx dy rx ry
    cases d with
    | tup ds => simp [plain] at pd
    | ty _ => simp [plain] at pd
    | ref _ => simp [plain] at pd
    | frl _ => simp [plain] at pd
    | thg _ => simp [plain] at pd
    | exc _ _ _ => simp [plain] at pd
    | non =>
      obtain rfl := dat_non.mp dx
      cases rx
      cases e with
      | non => obtain rfl := dat_non.mp dy; cases ry; simpa [eqD] using SeqAt.EqAt.same (A := A) (s := s) Value.none
      | bl b => obtain rfl := dat_bl.mp dy; cases ry; simpa [eqD] using SeqAt.EqAt.none_bool (A := A) (s := s) b
      | int b => obtain rfl := dat_int.mp dy; obtain ⟨t, rfl⟩ := ry; simpa [eqD] using SeqAt.EqAt.none_int (A := A) (s := s) b t
      | str b => obtain rfl := dat_str.mp dy; obtain ⟨t, rfl⟩ := ry; simpa [eqD] using SeqAt.EqAt.none_str (A := A) (s := s) b t
      | _ => simp [plain] at pe
    | bl a =>
      obtain rfl := dat_bl.mp dx
      cases rx
      cases e with
      | non => obtain rfl := dat_non.mp dy; cases ry; simpa [eqD] using SeqAt.EqAt.bool_none (A := A) (s := s) a
      | bl b => obtain rfl := dat_bl.mp dy; cases ry; simpa [eqD] using SeqAt.EqAt.bool_bool (A := A) (s := s) a b
      | int b => obtain rfl := dat_int.mp dy; obtain ⟨t, rfl⟩ := ry; simpa [eqD] using SeqAt.EqAt.bool_int (A := A) (s := s) a b t
      | str b => obtain rfl := dat_str.mp dy; obtain ⟨t, rfl⟩ := ry; simpa [eqD] using SeqAt.EqAt.bool_str (A := A) (s := s) a b t
      | _ => simp [plain] at pe
    | int a =>
      obtain rfl := dat_int.mp dx
      obtain ⟨t', rfl⟩ := rx
      cases e with
      | non => obtain rfl := dat_non.mp dy; cases ry; simpa [eqD] using SeqAt.EqAt.int_none (A := A) (s := s) a t'
      | bl b => obtain rfl := dat_bl.mp dy; cases ry; simpa [eqD] using SeqAt.EqAt.int_bool (A := A) (s := s) a t' b
      | int b => obtain rfl := dat_int.mp dy; obtain ⟨t, rfl⟩ := ry; simpa [eqD] using SeqAt.EqAt.int_int (A := A) (s := s) a t' b t
      | str b => obtain rfl := dat_str.mp dy; obtain ⟨t, rfl⟩ := ry; simpa [eqD] using SeqAt.EqAt.int_str (A := A) (s := s) a t' b t
      | _ => simp [plain] at pe
    | str a =>
      obtain rfl := dat_str.mp dx
      obtain ⟨t', rfl⟩ := rx
      cases e with
      | non => obtain rfl := dat_non.mp dy; cases ry; simpa [eqD] using SeqAt.EqAt.str_none (A := A) (s := s) a t'
      | bl b => obtain rfl := dat_bl.mp dy; cases ry; simpa [eqD] using SeqAt.EqAt.str_bool (A := A) (s := s) a t' b
      | int b => obtain rfl := dat_int.mp dy; obtain ⟨t, rfl⟩ := ry; simpa [eqD] using SeqAt.EqAt.str_int (A := A) (s := s) a t' b t
      | str b => obtain rfl := dat_str.mp dy; obtain ⟨t, rfl⟩ := ry; simpa [eqD] using SeqAt.EqAt.str_str (A := A) (s := s) a t' b t
      | _ => simp [plain] at pe
  | succ n ih =>
    intro A d e x y u v hu pd pe dx dy rx ry
    have flat : ∀ (z : D), plain (n + 1) z = true → (∀ zs, z ≠ .tup zs) → plain n z = true := by
      intro z pz nz
      cases z with
      | tup zs => exact absurd rfl (nz zs)
      | _ => first | (simp [plain]; done) | (simp [plain] at pz; done)
    have hun : A.units < cLine := by omega
    cases d with
    | tup ds =>
      obtain ⟨a, xs, rfl, ha, hx⟩ := dat_tup.mp dx
      obtain rfl : u = Value.ref a := rx
      obtain ⟨its, rv, pt, hz⟩ := tup_at ok ha
      cases e with
      | tup es =>
        obtain ⟨b, ys, rfl, hb, hy⟩ := dat_tup.mp dy
        obtain rfl : v = Value.ref b := ry
        obtain ⟨its2, rv2, pt2, hz2⟩ := tup_at ok hb
        by_cases hab : a = b
        · subst hab
          have := Dat.inj (K := K) (H := H) (n + 1) _ _ _ pd pe dx dy
          rw [← this, eqD_refl (n + 1) _ pd]
          exact SeqAt.EqAt.same _
        · refine SeqAt.EqAt.of_refs hab ?_
          have hl1 := hx.length.trans rv.length
          have hl2 := hy.length.trans rv2.length
          have key := SeqAt.RcAt.tuples (A := A) (s := s) (e := fun j => eqD (ds.getD j .non) (es.getD j .non)) pt pt2 hun (fun j h1 h2 => ?_)
          · rw [eqD_tup, eqDs_all]
            simp only [List.size_toArray, ← hl1, ← hl2] at key
            exact key
          · simp only [List.size_toArray] at h1 h2
            have e1 : ds[j]? = some (ds.getD j .non) := by rw [List.getD_eq_getElem?_getD, List.getElem?_eq_getElem (by omega)]; rfl
            have e2 : es[j]? = some (es.getD j .non) := by rw [List.getD_eq_getElem?_getD, List.getElem?_eq_getElem (by omega)]; rfl
            obtain ⟨x1, g1, g2⟩ := hx.get e1
            obtain ⟨y1, g3, g4⟩ := hy.get e2
            obtain ⟨u1, g5, g6⟩ := rv.get g1
            obtain ⟨v1, g7, g8⟩ := rv2.get g3
            have q1 : its.toArray[j] = u1 := by
              have : its[j] = u1 := Option.some.inj ((List.getElem?_eq_getElem (by omega)).symm.trans g5)
              simpa using this
            have q2 : its2.toArray[j] = v1 := by
              have : its2[j] = v1 := Option.some.inj ((List.getElem?_eq_getElem (by omega)).symm.trans g7)
              simpa using this
            rw [q1, q2]
            have pd' : ds.all (plain n) = true := by simpa [plain] using pd
            have pe' : es.all (plain n) = true := by simpa [plain] using pe
            exact ih A.in1 _ _ x1 y1 u1 v1 (by show A.units + 1 + n < cLine; omega) (all_get pd' e1) (all_get pe' e2) g2 g4 g6 g8
      | non => obtain rfl := dat_non.mp dy; cases ry; simpa [eqD] using SeqAt.EqAt.tuple_none (A := A) (s := s) pt hun
      | bl b => obtain rfl := dat_bl.mp dy; cases ry; simpa [eqD] using SeqAt.EqAt.tuple_bool (A := A) (s := s) b pt hun
      | int b => obtain rfl := dat_int.mp dy; obtain ⟨t, rfl⟩ := ry; simpa [eqD] using SeqAt.EqAt.tuple_int (A := A) (s := s) b t pt hun
      | str b => obtain rfl := dat_str.mp dy; obtain ⟨t, rfl⟩ := ry; simpa [eqD] using SeqAt.EqAt.tuple_str (A := A) (s := s) b t pt hun
      | _ => simp [plain] at pe
    | _ =>
      first
      | (simp [plain] at pd; done)
      | (cases e with
          | tup es =>
            obtain ⟨b, ys, rfl, hb, hy⟩ := dat_tup.mp dy
            obtain rfl : v = Value.ref b := ry
            obtain ⟨its2, rv2, pt2, hz2⟩ := tup_at ok hb
            first
            | (obtain rfl := dat_non.mp dx; cases rx; simpa [eqD] using SeqAt.EqAt.none_tuple (A := A) (s := s) pt2 hun)
            | (obtain rfl := dat_bl.mp dx; cases rx; simpa [eqD] using SeqAt.EqAt.bool_tuple (A := A) (s := s) _ pt2 hun)
            | (obtain rfl := dat_int.mp dx; obtain ⟨t, rfl⟩ := rx; simpa [eqD] using SeqAt.EqAt.int_tuple (A := A) (s := s) _ t pt2 hun)
            | (obtain rfl := dat_str.mp dx; obtain ⟨t, rfl⟩ := rx; simpa [eqD] using SeqAt.EqAt.str_tuple (A := A) (s := s) _ t pt2 hun)
          | _ =>
            first
            | (simp [plain] at pe; done)
            | exact ih A _ _ x y u v (by omega) (flat _ pd (fun _ z => by cases z)) (flat _ pe (fun _ z => by cases z)) dx dy rx ry)
def scaD : D → D → Bool
  | .non, .non => true | .non, .int _ => true | .int _, .non => true | .non, .bl _ => true | .bl _, .non => true | .non, .str _ => true | .str _, .non => true
  | .int _, .int _ => true | .bl _, .bl _ => true | .str _, .str _ => true
  | _, _ => false
def okEq (d e : D) : Bool := match d, e with
  | .tup ds, .tup es => plain 10 (.tup ds) && plain 10 (.tup es)
  | d, e => scaD d e
def rEqD : R3 := fun d e M Q => okEq d e = true ∧ Q (.bl (eqD d e)) M
def rNeD : R3 := fun d e M Q => okEq d e = true ∧ Q (.bl (!eqD d e)) M
theorem sca_of {K : PySem.W.Frag} {d e : D} {x y : V} (h : scaD d e = true) (dx : Dat K H d x) (dy : Dat K H e y) : scal x y = true ∧ decide (x = y) = eqD d e := by
  cases d <;> cases e <;> first
    | (simp [scaD] at h; done)
    | (simp only [Dat] at dx dy; subst dx; subst dy; refine ⟨rfl, ?_⟩; rw [Bool.eq_iff_iff]; simp [eqD])
theorem parts_eq {P : Program} {w : World} (ok : HOk P w H s.heap) {K : PySem.W.Frag} {A : Around} {ds es : List D} {xs ys : List V} {its its2 : List Value} {n : Nat} (hu : A.units + n < cLine) (pd : ds.all (plain n) = true) (pe : es.all (plain n) = true) (hx : Dats K H ds xs) (hy : Dats K H es ys) (rv : Vals xs its) (rv2 : Vals ys its2) :
    ∀ j (h1 : j < its.toArray.size) (h2 : j < its2.toArray.size), SeqAt.EqAt A s its.toArray[j] its2.toArray[j] (eqD (ds.getD j .non) (es.getD j .non)) := by
  intro j h1 h2
  have hl1 := hx.length.trans rv.length
  have hl2 := hy.length.trans rv2.length
  simp only [List.size_toArray] at h1 h2
  have e1 : ds[j]? = some (ds.getD j .non) := by rw [List.getD_eq_getElem?_getD, List.getElem?_eq_getElem (by omega)]; rfl
  have e2 : es[j]? = some (es.getD j .non) := by rw [List.getD_eq_getElem?_getD, List.getElem?_eq_getElem (by omega)]; rfl
  obtain ⟨x1, g1, g2⟩ := hx.get e1
  obtain ⟨y1, g3, g4⟩ := hy.get e2
  obtain ⟨u1, g5, g6⟩ := rv.get g1
  obtain ⟨v1, g7, g8⟩ := rv2.get g3
  have q1 : its.toArray[j] = u1 := by
    have : its[j] = u1 := Option.some.inj ((List.getElem?_eq_getElem (by omega)).symm.trans g5)
    simpa using this
  have q2 : its2.toArray[j] = v1 := by
    have : its2[j] = v1 := Option.some.inj ((List.getElem?_eq_getElem (by omega)).symm.trans g7)
    simpa using this
  rw [q1, q2]
  exact eqAt_D ok n A _ _ x1 y1 u1 v1 hu (all_get pd e1) (all_get pe e2) g2 g4 g6 g8
theorem o_eq (hu : X.A.units + 64 < cLine) : Op3 X (compareOp .Eq) rEqD := by
  constructor
  intro pins s σ H M x y d e v u Q I rm rx ry dx dy ⟨hk, q⟩
  by_cases ht : ∃ ds es, d = .tup ds ∧ e = .tup es
  · obtain ⟨ds, es, rfl, rfl⟩ := ht
    have hk : (plain 10 (.tup ds) && plain 10 (.tup es)) = true := hk
    rw [Bool.and_eq_true] at hk
    obtain ⟨a, xs, rfl, ha, hx⟩ := dat_tup.mp dx
    obtain ⟨b, ys, rfl, hb, hy⟩ := dat_tup.mp dy
    obtain rfl : v = Value.ref a := rx
    obtain rfl : u = Value.ref b := ry
    obtain ⟨its, rv, pt, hz⟩ := tup_at I.hok ha
    obtain ⟨its2, rv2, pt2, hz2⟩ := tup_at I.hok hb
    have hl1 := hx.length.trans rv.length
    have hl2 := hy.length.trans rv2.length
    refine SeqAt.RcAt.tuples (A := X.A) (s := s) (e := fun j => eqD (ds.getD j .non) (es.getD j .non)) pt pt2 (by omega) (parts_eq I.hok (n := 9) (by show X.A.units + 1 + 9 < cLine; omega) (by simpa [plain] using hk.1) (by simpa [plain] using hk.2) hx hy rv rv2) _ _ _ _ ?_
    refine ⟨.bl _, H, I, rfl, post_self rm (dat_bl.mpr rfl) ?_⟩
    simp only [List.size_toArray, ← hl1, ← hl2]
    rw [eqD_tup, eqDs_all] at q
    exact q
  · have hs : scaD d e = true := by
      unfold okEq at hk
      split at hk
      · exact absurd ⟨_, _, rfl, rfl⟩ ht
      · exact hk
    obtain ⟨h1, h2⟩ := sca_of hs dx dy
    exact op_eq pins s σ H x y v u _ I rx ry ⟨h1, by rw [h2]; exact post_self rm (dat_bl.mpr rfl) q⟩
theorem o_ne (hu : X.A.units + 64 < cLine) : Op3 X (compareOp .NotEq) rNeD := by
  constructor
  intro pins s σ H M x y d e v u Q I rm rx ry dx dy ⟨hk, q⟩
  by_cases ht : ∃ ds es, d = .tup ds ∧ e = .tup es
  · obtain ⟨ds, es, rfl, rfl⟩ := ht
    have hk : (plain 10 (.tup ds) && plain 10 (.tup es)) = true := hk
    rw [Bool.and_eq_true] at hk
    obtain ⟨a, xs, rfl, ha, hx⟩ := dat_tup.mp dx
    obtain ⟨b, ys, rfl, hb, hy⟩ := dat_tup.mp dy
    obtain rfl : v = Value.ref a := rx
    obtain rfl : u = Value.ref b := ry
    obtain ⟨its, rv, pt, hz⟩ := tup_at I.hok ha
    obtain ⟨its2, rv2, pt2, hz2⟩ := tup_at I.hok hb
    have hl1 := hx.length.trans rv.length
    have hl2 := hy.length.trans rv2.length
    refine SeqAt.RcNeAt.tuples (A := X.A) (s := s) (e := fun j => eqD (ds.getD j .non) (es.getD j .non)) pt pt2 (by omega) (parts_eq I.hok (n := 9) (by show X.A.units + 1 + 9 < cLine; omega) (by simpa [plain] using hk.1) (by simpa [plain] using hk.2) hx hy rv rv2) _ _ _ _ ?_
    refine ⟨.bl _, H, I, rfl, post_self rm (dat_bl.mpr rfl) ?_⟩
    simp only [List.size_toArray, ← hl1, ← hl2]
    rw [eqD_tup, eqDs_all] at q
    exact q
  · have hs : scaD d e = true := by
      unfold okEq at hk
      split at hk
      · exact absurd ⟨_, _, rfl, rfl⟩ ht
      · exact hk
    obtain ⟨h1, h2⟩ := sca_of hs dx dy
    exact op_ne pins s σ H x y v u _ I rx ry ⟨h1, by rw [h2]; exact post_self rm (dat_bl.mpr rfl) q⟩
noncomputable def dOf (K : PySem.W.Frag) (H : Hp) (v : V) : D := open Classical in if h : ∃ d, plain 9 d = true ∧ Dat K H d v then h.choose else .non
theorem dOf_eq {K : PySem.W.Frag} {d : D} {v : V} (p : plain 9 d = true) (h : Dat K H d v) : dOf K H v = d := by
  have hx : ∃ d, plain 9 d = true ∧ Dat K H d v := ⟨d, p, h⟩
  unfold dOf
  rw [dif_pos hx]
  exact Dat.inj 9 _ _ v hx.choose_spec.1 p hx.choose_spec.2 h
noncomputable def eOf (K : PySem.W.Frag) (H : Hp) (d : D) (u : Value) : Bool := match absV u with
  | some v => eqD (dOf K H v) d
  | none => false
theorem eOf_eq {K : PySem.W.Frag} {d e : D} {v : V} {u : Value} (p : plain 9 e = true) (h : Dat K H e v) (r : RelV v u) : eOf K H d u = eqD e d := by
  unfold eOf
  rw [r.abs]
  show eqD (dOf K H v) d = _
  rw [dOf_eq p h]
theorem any_eOf {K : PySem.W.Frag} {d : D} : ∀ {es : List D} {xs : List V} {us : List Value}, Dats K H es xs → Vals xs us → es.all (plain 9) = true → us.any (eOf K H d) = es.any fun e => eqD e d
  | [], xs, us, h, r, _ => by rw [dats_nil.mp h] at r; cases r; rfl
  | e :: es, xs, us, h, r, p => by
    obtain ⟨v, vs, rfl, h1, h2⟩ := dats_cons.mp h
    cases r with
    | cons r rr =>
      rw [List.all_cons, Bool.and_eq_true] at p
      rw [List.any_cons, List.any_cons, eOf_eq p.1 h1 r, any_eOf h2 rr p.2]
theorem mem_eOf {P : Program} {w : World} (ok : HOk P w H s.heap) {K : PySem.W.Frag} {A : Around} {d : D} {x : V} {v : Value} (hu : A.units + 9 < cLine) (pd : plain 9 d = true) (dx : Dat K H d x) (rx : RelV x v) :
    ∀ {es : List D} {xs : List V} {us : List Value}, Dats K H es xs → Vals xs us → es.all (plain 9) = true → ∀ u ∈ us, SeqAt.EqAt A s u v (eOf K H d u)
  | [], xs, us, h, r, _, u, hm => by rw [dats_nil.mp h] at r; cases r; cases hm
  | e :: es, xs, us, h, r, p, u, hm => by
    obtain ⟨y, ys, rfl, h1, h2⟩ := dats_cons.mp h
    cases r with
    | cons r rr =>
      rw [List.all_cons, Bool.and_eq_true] at p
      rcases List.mem_cons.mp hm with rfl | hm
      · rw [eOf_eq p.1 h1 r]
        exact eqAt_D ok 9 A _ _ _ _ _ _ hu p.1 pd h1 dx r rx
      · exact mem_eOf ok hu pd dx rx h2 rr p.2 u hm
def inD (d : D) (es : List D) : Bool := es.any fun e => eqD e d
def Seq3 (M : Mp) (e : D) (es : List D) : Prop := e = .tup es ∨ ∃ a, e = .ref a ∧ M a = some (.lst es)
def rInD (neg : Bool) : R3 := fun d e M Q => ∃ es, Seq3 M e es ∧ plain 9 d = true ∧ es.all (plain 9) = true ∧ Q (.bl (if neg then !inD d es else inD d es)) M
theorem o_in (hu : X.A.units + 64 < cLine) : Op3 X (compareOp .In) (rInD false) := by
  constructor
  intro pins s σ H M x y d e v u Q I rm rx ry dx dy ⟨es, hs, pd, pe, q⟩
  rcases hs with rfl | ⟨a, rfl, hM⟩
  · obtain ⟨b, ys, rfl, hb, hy⟩ := dat_tup.mp dy
    obtain rfl : u = Value.ref b := ry
    obtain ⟨its, rv, pt, hz⟩ := tup_at I.hok hb
    refine SeqAt.in_tupleAt (eOf X.K H d) pt (fun w hw => mem_eOf I.hok (by show X.A.units + 1 + 9 < cLine; omega) pd dx rx hy rv pe w (by simpa using hw)) ⟨.bl _, H, I, rfl, post_self rm (dat_bl.mpr rfl) ?_⟩
    rw [show its.toArray.any (eOf X.K H d) = its.any (eOf X.K H d) by simp, any_eOf hy rv pe]
    exact q
  · obtain rfl := dat_ref.mp dy
    obtain rfl : u = Value.ref a := ry
    obtain ⟨ys, hb, hy⟩ := rm.lst hM
    obtain ⟨its, rv, pl, hz⟩ := I.list (SqL.of hb)
    refine SeqAt.in_listAt (eOf X.K H d) pl.isList (fun w hw => mem_eOf I.hok (by show X.A.units + 1 + 9 < cLine; omega) pd dx rx hy rv pe w (by simpa using hw)) ⟨.bl _, H, I, rfl, post_self rm (dat_bl.mpr rfl) ?_⟩
    rw [show its.toArray.any (eOf X.K H d) = its.any (eOf X.K H d) by simp, any_eOf hy rv pe]
    exact q
theorem o_notIn (hu : X.A.units + 64 < cLine) : Op3 X (compareOp .NotIn) (rInD true) := by
  constructor
  intro pins s σ H M x y d e v u Q I rm rx ry dx dy ⟨es, hs, pd, pe, q⟩
  rcases hs with rfl | ⟨a, rfl, hM⟩
  · obtain ⟨b, ys, rfl, hb, hy⟩ := dat_tup.mp dy
    obtain rfl : u = Value.ref b := ry
    obtain ⟨its, rv, pt, hz⟩ := tup_at I.hok hb
    refine SeqAt.notIn_tupleAt (eOf X.K H d) pt (fun w hw => mem_eOf I.hok (by show X.A.units + 1 + 9 < cLine; omega) pd dx rx hy rv pe w (by simpa using hw)) ⟨.bl _, H, I, rfl, post_self rm (dat_bl.mpr rfl) ?_⟩
    rw [show its.toArray.any (eOf X.K H d) = its.any (eOf X.K H d) by simp, any_eOf hy rv pe]
    exact q
  · obtain rfl := dat_ref.mp dy
    obtain rfl : u = Value.ref a := ry
    obtain ⟨ys, hb, hy⟩ := rm.lst hM
    obtain ⟨its, rv, pl, hz⟩ := I.list (SqL.of hb)
    refine SeqAt.notIn_listAt (eOf X.K H d) pl.isList (fun w hw => mem_eOf I.hok (by show X.A.units + 1 + 9 < cLine; omega) pd dx rx hy rv pe w (by simpa using hw)) ⟨.bl _, H, I, rfl, post_self rm (dat_bl.mpr rfl) ?_⟩
    rw [show its.toArray.any (eOf X.K H d) = its.any (eOf X.K H d) by simp, any_eOf hy rv pe]
    exact q
theorem ints_dats {K : PySem.W.Frag} : ∀ {ns : List Int} {xs : List V}, Dats K H (ns.map D.int) xs → xs = ns.map V.int
  | [], xs, h => dats_nil.mp h
  | n :: ns, xs, h => by
    obtain ⟨v, vs, rfl, h1, h2⟩ := dats_cons.mp h
    rw [dat_int.mp h1, ints_dats h2]; rfl
def rLtT : R3 := fun d e M Q => ∃ ns ms : List Int, d = .tup (ns.map D.int) ∧ e = .tup (ms.map D.int) ∧ Q (.bl (HT.lexLt ns ms)) M
theorem o_ltT (hu : X.A.units + 64 < cLine) : Op3 X (compareOp .Lt) rLtT := by
  constructor
  intro pins s σ H M x y d e v u Q I rm rx ry dx dy ⟨ns, ms, e1, e2, q⟩
  subst e1; subst e2
  obtain ⟨a, xs, rfl, ha, hx⟩ := dat_tup.mp dx
  obtain ⟨b, ys, rfl, hb, hy⟩ := dat_tup.mp dy
  obtain rfl : v = Value.ref a := rx
  obtain rfl : u = Value.ref b := ry
  obtain ⟨its, rv, pt, hz⟩ := tup_at I.hok ha
  obtain ⟨its2, rv2, pt2, hz2⟩ := tup_at I.hok hb
  rw [ints_dats hx] at rv
  rw [ints_dats hy] at rv2
  exact HT.lt_tupInts pt pt2 (by simpa using intsAre_of rv) (by simpa using intsAre_of rv2) (by omega) ⟨.bl _, H, I, rfl, post_self rm (dat_bl.mpr rfl) q⟩
def rIsNotB : R3 := fun d e M Q => ∃ i b, d = .int i ∧ e = .bl b ∧ Q (.bl true) M
theorem o_isNotB : Op3 X (compareOp .IsNot) rIsNotB := by
  constructor
  intro pins s σ H M x y d e v u Q I rm rx ry dx dy ⟨i, b, e1, e2, q⟩
  subst e1; subst e2
  obtain rfl := dat_int.mp dx
  obtain rfl := dat_bl.mp dy
  obtain ⟨t, rfl⟩ := rx
  cases ry
  exact wpAny_isNot_other rfl (fun z => by cases z) ⟨.bl true, H, I, rfl, post_self rm (dat_bl.mpr rfl) q⟩
end
end L3
namespace L3
open PySem PySem.Spec PyProof.Rows L2
section
variable {X : Cx} {a b c e : Expr} {es : List Expr} {ta tb tc te : TE3} {t : TA3} {pos p : Pos}
def tNil3 : TA3 := fun _ M Q => Q [] M
def tCons3 (ta : TE3) (tr : TA3) : TA3 := fun ρ M Q => ta ρ M fun x M1 => tr ρ M1 fun xs M2 => Q (x :: xs) M2
theorem a_nil : PA3 X [] tNil3 := ⟨fun pos pins s σ H ρ M Q I r h => pa_nil pos pins s σ H _ I ⟨[], M, .refl _ _, dats_nil.mpr rfl, r.mem, h⟩⟩
theorem a_cons (ha : PE3 X e te) (hr : PA3 X es t) (hs : starEach (e :: es) X.env = (false, eval e X.env) :: starEach es X.env := by rfl) : PA3 X (e :: es) (tCons3 te t) := ⟨fun pos pins s σ H ρ M Q I r h =>
  pa_cons ha.dn hr.dn hs pos pins s σ H _ I (dn_of r h fun v H' d M' f dv r' q => dnA_of r' q fun vs H2 ds M2 f2 dvs r2 q2 =>
    ⟨d :: ds, M2, f.trans f2, dats_cons.mpr ⟨v, vs, rfl, Dat.mono (f2.ext r'.mem) _ _ dv, dvs⟩, r2.mem, q2⟩)⟩
def tTup3 (t : TA3) : TE3 := fun ρ M Q => t ρ M fun xs M1 => xs.length ≤ sizeLine ∧ Q (.tup xs) M1
def tLst3 (t : TA3) : TE3 := fun ρ M Q => t ρ M fun xs M1 => xs.length ≤ sizeLine ∧ ∀ p, M1 p = none → Q (.ref p) (updM M1 p (.lst xs))
theorem q_tup {x1} (h : PA3 X es t) : PE3 X (.Tuple es x1 pos) (tTup3 t) := up (pe_tup h.dn) fun σ H ρ M Q r q => dnA_of r q fun vs H' ds M' f dv r' ⟨hl, q⟩ =>
  ⟨by rw [← dv.length]; exact hl, fun p hp => ⟨.tup ds, M', f.trans (Fr.new hp fun _ _ => rfl), dat_tup.mpr ⟨p, vs, rfl, upd_same, Dats.mono (Ext.new hp) _ _ dv⟩, r'.mem.new hp, q⟩⟩
theorem q_lst (h : PA3 X es t) : PE3 X (.List es pos) (tLst3 t) := up (pe_lst h.dn) fun σ H ρ M Q r q => dnA_of r q fun vs H' ds M' f dv r' ⟨hl, q⟩ =>
  ⟨by rw [← dv.length]; exact hl, fun p hp => ⟨.ref p, updM M' p (.lst ds), f.trans (Fr.new hp fun _ hb => updM_ne hb), dat_ref.mpr rfl, r'.mem.newL hp dv, q p (r'.mem.free hp)⟩⟩
def Seq4 (M : Mp) (e : D) (es : List D) : Prop := e = .tup es ∨ e = .frl es ∨ ∃ a, e = .ref a ∧ M a = some (.lst es)
def rIx3 : R3 := fun d e M Q => ∃ xs i z, Seq4 M d xs ∧ e = .int i ∧ atI xs i = some z ∧ Q z M
theorem ixN_of {α β : Type} {xs : List α} {ys : List β} (h : xs.length = ys.length) {i : Int} {z : α} (e : atI xs i = some z) : ∃ j, ixN ys.length i = some j ∧ xs[j]? = some z := by
  unfold atI at e
  rw [h] at e
  cases q : ixN ys.length i with
  | none => rw [q] at e; cases e
  | some j => rw [q] at e; exact ⟨j, rfl, e⟩
theorem atI_dats {K : PySem.W.Frag} {H : Hp} {ds : List D} {xs : List V} (h : Dats K H ds xs) {i : Int} {z : D} (e : atI ds i = some z) : ∃ v, atI xs i = some v ∧ Dat K H z v := by
  obtain ⟨j, h1, h2⟩ := ixN_of h.length e
  obtain ⟨v, h3, h4⟩ := h.get h2
  refine ⟨v, ?_, h4⟩
  unfold atI
  rw [h1]
  exact h3
theorem q_ix (ha : PE3 X a ta) (hb : PE3 X b tb) (hs : PlainIx b := by intro _ _; rfl) : PE3 X (.Subscript a b pos) (tBin rIx3 ta tb) := up (pe_ix (ix_list.or ix_tup) ha.dn hb.dn hs) fun σ H ρ M Q r q =>
  dn_of r q fun v H' d M' f dv r' q => dn_of r' q fun u H2 e M2 f2 du r2 ⟨xs, i, z, hq, ei, at', q⟩ => by
    subst ei
    obtain rfl := dat_int.mp du
    have dv2 := Dat.mono (f2.ext r'.mem) _ _ dv
    have fin : ∀ w, Dat X.K H2 z w → Post X.K M H Q w H2 := fun w dw => ⟨z, M2, f.trans f2, dw, r2.mem, q⟩
    rcases hq with rfl | rfl | ⟨l, rfl, hl⟩
    · obtain ⟨p, ys, rfl, hp, hy⟩ := dat_tup.mp dv2
      obtain ⟨w, h1, h2⟩ := atI_dats hy at'
      exact .inr ⟨p, ys, i, w, rfl, rfl, SqT.of hp, h1, fin w h2⟩
    · obtain ⟨p, ys, rfl, hp, hy⟩ := dat_frl.mp dv2
      obtain ⟨w, h1, h2⟩ := atI_dats hy at'
      exact .inl ⟨p, ys, i, w, rfl, rfl, hp.sq, h1, fin w h2⟩
    · obtain rfl := dat_ref.mp dv2
      obtain ⟨ys, hp, hy⟩ := r2.mem.lst hl
      obtain ⟨w, h1, h2⟩ := atI_dats hy at'
      exact .inl ⟨l, ys, i, w, rfl, rfl, SqL.of hp, h1, fin w h2⟩
structure Call3 (X : Cx) (f : Value) (t : List D → Mp → DK → Prop) : Prop where
  run : ∀ (pins : List (Addr × Obj)) (s : Shared) (σ : St) (H : Hp) (M : Mp) (xs : List V) (ds : List D) (us : List Value) (Q : DK), Inv X pins σ H s → RepM X.K H M → Vals xs us → Dats X.K H ds xs → t ds M Q →
    wpAny (model X.prog X.w) X.A (call f us) (EP X pins σ (Post X.K M H Q)) X.xe s
theorem call3 {f : Value} {r : List V → Hp → VK → Prop} {t : List D → Mp → DK → Prop} (h : CallR X f r) (g : ∀ H M xs ds Q, RepM X.K H M → Dats X.K H ds xs → t ds M Q → r xs H (Post X.K M H Q)) : Call3 X f t :=
  ⟨fun pins s σ H M xs ds us Q I rm rs dx q => h pins s σ H xs us _ I rs (g H M xs ds Q rm dx q)⟩
def tCB3 (r : List D → Mp → DK → Prop) (t : TA3) : TE3 := fun ρ M Q => t ρ M fun ds M1 => r ds M1 Q
variable {x : Str} {id T : String} {r : List D → Mp → DK → Prop}
theorem q_blt (hc : Call3 X (.builtin id) r) (hg : Gl X x) (hm : X.mg x = none) (hv : bootBuiltins x = some (.builtin id)) (ha : PA3 X (e :: es) t) (hn : x ≠ "__name__" := by decide) (hdb : (x == ("__debug__" : Str)) = false := by decide)
    (he : starEach (e :: es) X.env = (false, eval e X.env) :: starEach es X.env := by rfl) (hpl : (backTo pos (starEach es X.env)).any (·.1) = false := by rfl) : PE3 X (.Call (.Name x p) (e :: es) [] pos) (tCB3 r t) := by
  constructor
  intro pins s σ H ρ M Q I r h
  refine wpAny_Call_Name_kw (ld_blt I hg hm hv ?_ hn hdb)
  refine PyProof.Rows.callWith_builtin1 (thn (ha.run pos pins s σ H ρ M _ I r h) fun us s1 ⟨vs, H1, I1, r1, ds, M1, f1, d1, rm1, q1⟩ => ?_) he hpl
  exact thn (hc.run pins s1 σ H1 M1 vs ds us Q I1 rm1 r1 d1 q1) fun _ _ ⟨z, H3, I3, r3, p⟩ => ⟨z, H3, I3, r3, p.back f1⟩
theorem q_typ (hc : Call3 X (.type T) r) (hg : Gl X x) (hm : X.mg x = none) (hv : bootBuiltins x = some (.type T)) (ha : PA3 X (e :: es) t) (hn : x ≠ "__name__" := by decide) (hdb : (x == ("__debug__" : Str)) = false := by decide)
    (he : starEach (e :: es) X.env = (false, eval e X.env) :: starEach es X.env := by rfl) (hpl : (backTo pos (starEach es X.env)).any (·.1) = false := by rfl) : PE3 X (.Call (.Name x p) (e :: es) [] pos) (tCB3 r t) := by
  constructor
  intro pins s σ H ρ M Q I r h
  refine wpAny_Call_Name_kw (ld_blt I hg hm hv ?_ hn hdb)
  refine PyProof.Rows.callWith_type1 (thn (ha.run pos pins s σ H ρ M _ I r h) fun us s1 ⟨vs, H1, I1, r1, ds, M1, f1, d1, rm1, q1⟩ => ?_) he hpl
  exact thn (hc.run pins s1 σ H1 M1 vs ds us Q I1 rm1 r1 d1 q1) fun _ _ ⟨z, H3, I3, r3, p⟩ => ⟨z, H3, I3, r3, p.back f1⟩
theorem dats1 {K : PySem.W.Frag} {H : Hp} {d : D} {xs : List V} (h : Dats K H [d] xs) : ∃ v, xs = [v] ∧ Dat K H d v := by
  obtain ⟨v, vs, rfl, h1, h2⟩ := dats_cons.mp h
  rw [dats_nil.mp h2]
  exact ⟨v, rfl, h1⟩
theorem dats2 {K : PySem.W.Frag} {H : Hp} {d e : D} {xs : List V} (h : Dats K H [d, e] xs) : ∃ v u, xs = [v, u] ∧ Dat K H d v ∧ Dat K H e u := by
  obtain ⟨v, vs, rfl, h1, h2⟩ := dats_cons.mp h
  obtain ⟨u, rfl, h3⟩ := dats1 h2
  exact ⟨v, u, rfl, h1, h3⟩
def rLen : List D → Mp → DK → Prop := fun ds M Q => ∃ d xs, ds = [d] ∧ Seq4 M d xs ∧ Q (.int xs.length) M
theorem c_len : Call3 X (.builtin "len") rLen := call3 call_len_seq fun H M xs ds Q rm dx ⟨d, ys, ei, hs, q⟩ => by
  subst ei
  obtain ⟨v, rfl, hv⟩ := dats1 dx
  rcases hs with rfl | rfl | ⟨l, rfl, hl⟩
  · obtain ⟨p, zs, rfl, hp, hz⟩ := dat_tup.mp hv
    exact ⟨p, zs, rfl, .inr (SqT.of hp), post_self rm (dat_int.mpr (by rw [hz.length])) q⟩
  · obtain ⟨p, zs, rfl, hp, hz⟩ := dat_frl.mp hv
    exact ⟨p, zs, rfl, .inl hp.sq, post_self rm (dat_int.mpr (by rw [hz.length])) q⟩
  · obtain rfl := dat_ref.mp hv
    obtain ⟨zs, hp, hz⟩ := rm.lst hl
    exact ⟨l, zs, rfl, .inl (SqL.of hp), post_self rm (dat_int.mpr (by rw [hz.length])) q⟩
inductive Ty3 (M : Mp) : D → String → Prop where
  | non : Ty3 M .non "NoneType"
  | bl (b : Bool) : Ty3 M (.bl b) "bool"
  | int (i : Int) : Ty3 M (.int i) "int"
  | str (x : Str) : Ty3 M (.str x) "str"
  | tup (ds : List D) : Ty3 M (.tup ds) "tuple"
  | lst {a : Addr} {ds : List D} (h : M a = some (.lst ds)) : Ty3 M (.ref a) "list"
  | dct : Ty3 M (.thg "dict") "dict"
def rIsT (K : PySem.W.Frag) : List D → Mp → DK → Prop := fun ds M Q => ∃ d n m b, ds = [d, .ty m] ∧ Ty3 M d n ∧ PySem.W.kitOne K (.type n) (.type m) = some b ∧ Q (.bl b) M
theorem c_isT : Call3 X (.builtin "isinstance") (rIsT X.K) := by
  constructor
  intro pins s σ H M xs ds us Q I rm rs dx ⟨d, n, m, b, ei, ty, hk, q⟩
  subst ei
  obtain ⟨v, u, rfl, hv, hu⟩ := dats2 dx
  obtain rfl := dat_ty.mp hu
  obtain ⟨v', u', rfl, r1, r2⟩ := vals2 rs
  obtain rfl : u' = Value.type m := r2
  have fin : ∀ tk, EP X pins σ (Post X.K M H Q) (.bool b) { s with toks := tk } := fun tk => ⟨.bl b, H, I.tok tk, rfl, post_self rm (dat_bl.mpr rfl) q⟩
  cases ty with
  | non => obtain rfl := dat_non.mp hv; exact isinst_ok I r1 .non hk fin
  | bl k => obtain rfl := dat_bl.mp hv; exact isinst_ok I r1 (.bl k) hk fin
  | int i => obtain rfl := dat_int.mp hv; exact isinst_ok I r1 (.int i) hk fin
  | str z => obtain rfl := dat_str.mp hv; exact isinst_ok I r1 (.str z) hk fin
  | tup zs =>
    obtain ⟨p, ys, rfl, hp, hy⟩ := dat_tup.mp hv
    exact isinst_ok I r1 (.tup hp) hk fin
  | lst hM =>
    obtain rfl := dat_ref.mp hv
    obtain ⟨ys, hp, hy⟩ := rm.lst hM
    exact isinst_ok I r1 (.lst hp) hk fin
  | dct =>
    obtain ⟨p, o, u, rfl, hp, hc⟩ := dat_thg.mp hv
    cases (show v' = Value.ref p from r1)
    obtain ⟨h1, _⟩ := (show ObjOk X.prog X.w H s.heap p (.frz o u) from I.hok p _ hp)
    exact PySem.W.kia_one PySem.W.kitx_dict I.kIn ⟨o, h1, hc⟩ hk (fun z => nomatch z) fin
abbrev SpP := List D → (D → Prop) → Prop
def spP (K : PySem.W.Frag) (S : SpP) : Sp := fun vs H Q _ => ∃ ds Q0, Dats K H ds vs ∧ S ds Q0 ∧ ∀ d v H', Q0 d → Dat K H' d v → (∀ b o, H b = some o → H' b = some o) → Q v H'
abbrev Sp3 := List D → Mp → DK → Prop
def sp3 (K : PySem.W.Frag) (S : Sp3) : Sp := fun vs H Q _ => ∃ ds M Q0, Dats K H ds vs ∧ RepM K H M ∧ S ds M Q0 ∧ ∀ d M' v H', Q0 d M' → Dat K H' d v → RepM K H' M' → Fr M H M' H' → Q v H'
theorem dats_app_nil {K : PySem.W.Frag} {H : Hp} {ds : List D} {vs : List V} (h : Dats K H ds vs) : Dats K H ds (vs ++ []) := by simpa using h
theorem Ext.keep {H H' : Hp} (h : ∀ b o, H b = some o → H' b = some o) : Ext H H' := ⟨fun b _ e => h b _ e, fun b _ _ e => h b _ e⟩
theorem RepM.keep {K : PySem.W.Frag} {H H' : Hp} {M : Mp} (r : RepM K H M) (h : ∀ b o, H b = some o → H' b = some o) : RepM K H' M := fun a o e => (r a o e).mono (Ext.keep h) fun u q => h _ _ q
variable {k : Nat} {f : Addr} {fd : FuncData} {ps : List Str}
def tCallP (S : SpP) (t : TA3) : TE3 := fun ρ M Q => t ρ M fun ds M1 => S ds fun d => Q d M1
def tCall3 (S : Sp3) (t : TA3) : TE3 := fun ρ M Q => t ρ M fun ds M1 => S ds M1 Q
theorem q_callP {S : SpP} (F : FnOk X.prog X.w X.K X.mg X.base CX0 k f fd ps (spP X.K S)) (hr : Room k X.A) (hg : Gl X x) (hm : X.mg x = some (.ref f)) (hk : PySem.W.keepIn X.K (.ref f) = true) (hb : Binds X.K fd ps [])
    (ha : PA3 X (e :: es) t) (hdb : (x == ("__debug__" : Str)) = false := by decide) (he : starEach (e :: es) X.env = (false, eval e X.env) :: starEach es X.env := by rfl) (hpl : (backTo pos (starEach es X.env)).any (·.1) = false := by rfl) :
    PE3 X (.Call (.Name x p) (e :: es) [] pos) (tCallP S t) :=
  up (pe_call (dvs := []) (E := E0) F hr hg hm hk hb .nil pass0 ha.dn hdb he hpl) fun σ H ρ M Q r q => dnA_of r q fun vs H' ds M' f dv r' q =>
    ⟨ds, _, dats_app_nil dv, q, fun d v H2 q2 d2 kp => ⟨d, M', f.trans fun b o n e => ⟨kp b o e, n⟩, d2, r'.mem.keep kp, q2⟩⟩
theorem q_call {S : Sp3} (F : FnOk X.prog X.w X.K X.mg X.base CX0 k f fd ps (sp3 X.K S)) (hr : Room k X.A) (hg : Gl X x) (hm : X.mg x = some (.ref f)) (hk : PySem.W.keepIn X.K (.ref f) = true) (hb : Binds X.K fd ps [])
    (ha : PA3 X (e :: es) t) (hdb : (x == ("__debug__" : Str)) = false := by decide) (he : starEach (e :: es) X.env = (false, eval e X.env) :: starEach es X.env := by rfl) (hpl : (backTo pos (starEach es X.env)).any (·.1) = false := by rfl) :
    PE3 X (.Call (.Name x p) (e :: es) [] pos) (tCall3 S t) :=
  up (pe_call (dvs := []) (E := E0) F hr hg hm hk hb .nil pass0 ha.dn hdb he hpl) fun σ H ρ M Q r q => dnA_of r q fun vs H' ds M' f dv r' q =>
    ⟨ds, M', _, dats_app_nil dv, r'.mem, q, fun d M2 v H2 q2 d2 rm2 f2 => ⟨d, M2, f.trans f2, d2, rm2, q2⟩⟩
end
section
variable {X : Cx} {st : Stmt} {rest : List Stmt} {t u : TS3} {e : Expr} {te : TE3} {pos : Pos}
def tNext3 : TS3 := fun D ρ M => D.nx ρ M
def tSeq3 (t u : TS3) : TS3 := fun D ρ M => t { D with nx := u D } ρ M
theorem PS3.dn {st : Stmt} {t : TS3} (h : PS3 X st t) : PS X st (dnS X.K t) := fun pins s σ H D' I ⟨ρ, M, D, r, q, k1, k2, k3, k4⟩ =>
  thn (h.run pins s σ H ρ M D I r q) fun f s' z => by
    cases f with
    | next => obtain ⟨σ', H', I', p⟩ := z; exact ⟨σ', H', I', k1 _ _ p⟩
    | brk => obtain ⟨σ', H', I', p⟩ := z; exact ⟨σ', H', I', k3 _ _ p⟩
    | cont => obtain ⟨σ', H', I', p⟩ := z; exact ⟨σ', H', I', k4 _ _ p⟩
    | ret u => obtain ⟨v, σ', H', I', rv, p⟩ := z; exact ⟨v, σ', H', I', rv, k2 _ _ p⟩
theorem upSs {sts : List Stmt} {te : TS} {t : TS3} (h : PSs X sts te) (g : ∀ σ H ρ M D, Rep X.K H σ ρ M → t D ρ M → te (ends X.K M H D) σ H) : PSs3 X sts t :=
  ⟨fun pins s σ H ρ M D I r q => h pins s σ H _ I (g σ H ρ M D r q)⟩
theorem dnS_self {K : PySem.W.Frag} {M0 : Mp} {H0 : Hp} {σ : St} {H : Hp} {ρ : En} {M : Mp} {D : En3} {t : TS3} (f : Fr M0 H0 M H) (r : Rep K H σ ρ M) (q : t D ρ M) : dnS K t (ends K M0 H0 D) σ H :=
  ⟨ρ, M, D, r, q, fun _ _ p => p.back f, fun _ _ p => p.back f, fun _ _ p => p.back f, fun _ _ p => p.back f⟩
theorem b_nil : PSs3 X [] tNext3 := upSs pss_nil fun σ H ρ M D r q => ⟨ρ, M, .refl _ _, r, q⟩
theorem b_cons (h1 : PS3 X st t) (h2 : PSs3 X rest u) : PSs3 X (st :: rest) (tSeq3 t u) := upSs (pss_cons h1.dn h2.dn) fun σ H ρ M D r q =>
  ⟨ρ, M, _, r, q, fun σ' H' ⟨ρ', M', f, r', q'⟩ => dnS_self f r' q', fun _ _ p => p, fun _ _ p => p, fun _ _ p => p⟩
theorem b_one (h1 : PS3 X st t) : PSs3 X [st] t := upSs (pss_one h1.dn) fun σ H ρ M D r q => dnS_self (.refl _ _) r q
def tDrop3 (te : TE3) : TS3 := fun D ρ M => te ρ M fun _ M1 => D.nx ρ M1
theorem s_expr (he : PE3 X e te) (hs : swapsWith e none pos.line X.env = pure false := by rfl) : PS3 X (.Expr e pos) (tDrop3 te) := upS (ps_expr he.dn hs) fun σ H ρ M D r q => dn_of r q fun v H' d M' f dv r' q => ⟨ρ, M', f, r', q⟩
def tRet3 (te : TE3) : TS3 := fun D ρ M => te ρ M D.rt
theorem s_ret (he : PE3 X e te) : PS3 X (.Return (some e) pos) (tRet3 te) := upS (ps_ret he.dn) fun σ H ρ M D r q => ⟨ρ, M, _, r, q, fun _ _ p => p⟩
def tIfS3 (c : TT3) (t u : TS3) : TS3 := fun D ρ M => c ρ M fun b M1 => if b = true then t D ρ M1 else u D ρ M1
theorem s_if {c : Expr} {a b : List Stmt} {tc : TT3} (hc : PT3 X c tc) (ha : PSs3 X a t) (hb : PSs3 X b u) : PS3 X (.If c a b pos) (tIfS3 tc t u) := upS (ps_if hc.dn ha.dn hb.dn) fun σ H ρ M D r q => dnT_of r q fun k H' M' f r' q => by
  cases k with
  | true => exact dnS_self f r' q
  | false => exact dnS_self f r' q
def tNever3 : TS3 := fun _ _ _ => False
theorem s_never : PS3 X st tNever3 := ⟨fun _ _ _ _ _ _ _ _ _ h => h.elim⟩
def tSet3 (i : Nat) (te : TE3) : TS3 := fun D ρ M => te ρ M fun x M1 => D.nx (ρ.set i (some x)) M1
theorem s_set {i : Nat} {x : Str} {pos' : Pos} (hN : X.N.Nodup) (hi : X.N[i]? = some x) (hx : Loc X.env.scope x) (he : PE3 X e te) (hs : swapsWith e (some (.Name x pos')) pos.line X.env = pure false := by rfl) (hf : X.fn x = true ∨ X.env.scope.names.lookup x = some .local := by first | exact .inl rfl | exact .inr rfl | assumption) :
    PS3 X (.Assign [.Name x pos'] e pos) (tSet3 i te) := upS (ps_set hN hi hx he.dn hs hf) fun σ H ρ M D r q => dn_of r q fun v H' d M' f dv r' q => ⟨ρ.set i (some d), M', f, r'.set dv, q⟩
abbrev TG3 := D → En → Mp → (En → Mp → Prop) → Prop
abbrev TGs3 := List D → En → Mp → (En → Mp → Prop) → Prop
structure PG3 (X : Cx) (target : Expr) (t : TG3) : Prop where
  run : ∀ (pins : List (Addr × Obj)) (s : Shared) (σ : St) (H : Hp) (ρ : En) (M : Mp) (v : V) (d : D) (u : Value) (Q : En → Mp → Prop), Inv X pins σ H s → Rep X.K H σ ρ M → RelV v u → Dat X.K H d v → t d ρ M Q →
    wpAny (model X.prog X.w) X.A (assign target X.env u) (fun _ s' => ∃ σ' H', Inv X pins σ' H' s' ∧ PostN X.K M H Q σ' H') X.xe s
structure PGs3 (X : Cx) (ts : List Expr) (t : TGs3) : Prop where
  run : ∀ (pins : List (Addr × Obj)) (s : Shared) (σ : St) (H : Hp) (ρ : En) (M : Mp) (vs : List V) (ds : List D) (us : List Value) (Q : En → Mp → Prop), Inv X pins σ H s → Rep X.K H σ ρ M → Vals vs us → Dats X.K H ds vs → t ds ρ M Q →
    wpAny (model X.prog X.w) X.A (assignInOrder ((assignEach ts X.env).map (·.2)) us) (fun _ s' => ∃ σ' H', Inv X pins σ' H' s' ∧ PostN X.K M H Q σ' H') X.xe s
def gName3 (i : Nat) : TG3 := fun d ρ M Q => Q (ρ.set i (some d)) M
theorem g_name {i : Nat} {x : Str} (hN : X.N.Nodup) (hi : X.N[i]? = some x) (hx : Loc X.env.scope x) (hf : X.fn x = true ∨ X.env.scope.names.lookup x = some .local := by first | exact .inl rfl | exact .inr rfl | assumption) : PG3 X (.Name x pos) (gName3 i) :=
  ⟨fun pins s σ H ρ M v d u Q I r rv dv q => pg_name hN hi hx hf pins s σ H v u _ I rv ⟨ρ.set i (some d), M, .refl _ _, r.set dv, q⟩⟩
def gNil3 : TGs3 := fun ds ρ M Q => ds = [] ∧ Q ρ M
def gCons3 (t : TG3) (u : TGs3) : TGs3 := fun ds ρ M Q => ∃ d r, ds = d :: r ∧ t d ρ M fun ρ' M' => u r ρ' M' Q
theorem gs_nil : PGs3 X [] gNil3 := by
  constructor
  intro pins s σ H ρ M vs ds us Q I r rv dv ⟨e1, q⟩
  subst e1
  rw [dats_nil.mp dv] at rv
  cases rv
  exact assignInOrder_nil ⟨σ, H, I, ρ, M, .refl _ _, r, q⟩
theorem gs_cons {e : Expr} {es : List Expr} {t : TG3} {u : TGs3} (h1 : PG3 X e t) (h2 : PGs3 X es u)
    (hs : (assignEach (e :: es) X.env).map (·.2) = assign e X.env :: (assignEach es X.env).map (·.2) := by rfl) : PGs3 X (e :: es) (gCons3 t u) := by
  constructor
  intro pins s σ H ρ M vs ds us Q I r rv dv ⟨d, dr, e1, q⟩
  subst e1
  obtain ⟨v, vr, rfl, d1, d2⟩ := dats_cons.mp dv
  cases rv with
  | cons rv rr =>
    rw [hs]
    refine assignInOrder_cons (thn (h1.run pins s σ H ρ M v d _ _ I r rv d1 q) fun _ s1 ⟨σ1, H1, I1, ρ1, M1, f1, r1, q1⟩ => ?_)
    exact thn (h2.run pins s1 σ1 H1 ρ1 M1 vr dr _ Q I1 r1 rr (Dats.mono (f1.ext r.mem) _ _ d2) q1) fun _ s2 ⟨σ2, H2, I2, p⟩ => ⟨σ2, H2, I2, p.back f1⟩
def gSeq3 (n : Nat) (t : TGs3) : TG3 := fun d ρ M Q => ∃ xs, Seq3 M d xs ∧ xs.length = n ∧ t xs ρ M Q
theorem draw_list {prog : Program} {w : World} {A : Around} {E : Value → Shared → Prop} {it l : Addr} {items : Array Value} : ∀ (n i : Nat) (s : Shared) (Q : List Value → Shared → Prop), s.heap.IsListIter it l i → it ≠ l → s.heap.IsList l items → i + n ≤ items.size →
    (∀ h', h'.IsListIter it l (i + n) → Heap.SameBut it s.heap h' → Q ((items.toList.drop i).take n) { s with heap := h' }) → wpAny (model prog w) A (draw (.ref it) n) Q E s := by
  intro n
  induction n with
  | zero =>
    intro i s Q hit _ hl hi hQ
    have := hQ s.heap hit (.refl ..)
    rw [List.take_zero] at this
    exact wpAny_pure this
  | succ n ih =>
    intro i s Q hit hne hl hi hQ
    have hlt : i < items.size := by omega
    show wpAny _ _ (pyNext (.ref it) >>= _) Q E s
    refine wpAny_bind (wpAny_pyNext_list_item hit hl (x := items[i]) (by simp [hlt]) fun h₁ hit₁ hs₁ => ?_)
    refine wpAny_bind (wpAny_holding (ih (i + 1) _ _ hit₁ hne (hl.at fun o e => hs₁.extBut _ o (Ne.symm hne) e) (by omega) fun h₂ hit₂ hs₂ => wpAny_pure ?_))
    have hd : items.toList.drop i = items[i] :: items.toList.drop (i + 1) := by simp [List.drop_eq_getElem_cons, hlt]
    have := hQ h₂ (by rw [show i + (n + 1) = i + 1 + n by omega]; exact hit₂) (hs₁.trans hs₂)
    rw [hd, List.take_succ_cons] at this
    exact this
theorem unpackItems_list {prog : Program} {w : World} {A : Around} {E : Value → Shared → Prop} {s : Shared} {t : Addr} {items : Array Value} {Q : List Value → Shared → Prop} (hh : A.handled = none) (ht : s.heap.IsList t items)
    (hQ : ∀ h', Heap.ExtBut s.heap.objs.size s.heap h' → Q items.toList { s with heap := h' }) : wpAny (model prog w) A (unpackItems (.ref t) items.size none) Q E s := by
  have hlt : t ≠ s.heap.objs.size := by obtain ⟨o, ho, _⟩ := ht; exact Nat.ne_of_lt (Heap.lt_size ho)
  unfold unpackItems
  refine wpAny_bind ?_
  · unfold notIterableAtAll
    refine wpAny_bind (wpAny_specialOf ht.typeIs slot_list_iter.lookup ?_)
    refine wpAny_pure ?_
    simp only [Bool.false_eq_true, if_false]
    refine wpAny_bind (wpAny_holding (wpAny_pyIter_list ht ?_))
    have ht0 : (s.heap.push { cls := .type "list_iterator", data := .fields #[.ref t, rawInt 0] }).IsList t items := by
      obtain ⟨o, ho, c, n, d⟩ := id ht
      exact ⟨o, Heap.get?_push_of_some _ ho, c, n, d⟩
    refine wpAny_bind (wpAny_holding (draw_list items.size 0 _ _ ⟨_, Heap.get?_push_size _ rfl, rfl, rfl⟩ (Ne.symm hlt) ht0 (by omega) fun h₁ hit₁ hs₁ => ?_))
    have hall : List.take items.size (List.drop 0 items.toList) = items.toList := by
      rw [List.drop_zero]; exact List.take_of_length_le (by simp)
    rw [hall]
    rw [if_neg (by simp)]
    have ht₁ : h₁.IsList t items := ht0.at fun o e => hs₁.extBut _ o hlt e
    refine wpAny_bind (wpAny_holding (wpAny_pyNext_list_end hh hit₁ ht₁ (by simp) fun h₂ he₂ => ?_))
    simp only [Option.isSome_none, Bool.false_eq_true, if_false]
    refine wpAny_pure (hQ h₂ fun b o hb e => he₂ b o hb (hs₁.extBut b o hb (Heap.get?_push_of_some _ e)))
theorem g_seq {es : List Expr} {k : Nat} {t : TGs3} {n : Nat} (hc : X.calm = true) (h : PGs3 X es t)
    (hn : (assignEach es X.env).length = n := by rfl) (hst : (assignEach es X.env).findIdx? (·.1) = none := by rfl) : PG3 X (.Tuple es k pos) (gSeq3 n t) := by
  constructor
  intro pins s σ H ρ M v d u Q I r rv dv ⟨xs, hq, hl, q⟩
  rcases hq with rfl | ⟨a, rfl, hM⟩
  · obtain ⟨a, ys, rfl, ha, hy⟩ := dat_tup.mp dv
    obtain rfl : u = Value.ref a := rv
    obtain ⟨its, rvs, ht, hz⟩ := I.tuple (SqT.of ha)
    refine assign_Tuple_tuple (I.ok.hd hc) ht (by simp [hn, ← hl, hy.length, rvs.length]) hst fun h' hx => ?_
    have I1 : Inv X pins σ H { s with heap := h' } := I.kept (t' := s.toks) fun b o e => hx b o (Nat.ne_of_lt (Heap.lt_size e)) e
    exact h.run pins _ σ H ρ M ys xs _ Q I1 r (by simpa using rvs) hy q
  · obtain rfl := dat_ref.mp dv
    obtain rfl : u = Value.ref a := rv
    obtain ⟨ys, ha, hy⟩ := r.mem.lst hM
    obtain ⟨its, rvs, ht, hz⟩ := I.list (SqL.of ha)
    rw [assign_Tuple]
    refine wpAny_bind (wpAny_standAt ?_)
    unfold unpack
    have hsz : (assignEach es X.env).length = its.toArray.size := by simp [hn, ← hl, hy.length, rvs.length]
    rw [hsz, hst]
    refine wpAny_bind (wpAny_holding (unpackItems_list (I.ok.hd hc) ht.isList fun h' hx => ?_))
    have I1 : Inv X pins σ H { s with heap := h' } := I.kept (t' := s.toks) fun b o e => hx b o (Nat.ne_of_lt (Heap.lt_size e)) e
    exact h.run pins _ σ H ρ M ys xs _ Q I1 r (by simpa using rvs) hy q
def tAsg3 (te : TE3) (g : TG3) : TS3 := fun D ρ M => te ρ M fun x M1 => g x ρ M1 D.nx
theorem s_asg {tg e : Expr} {g : TG3} (he : PE3 X e te) (hg : PG3 X tg g) (hs : swapsWithSole [tg] e pos.line X.env = pure false := by rfl) (hw : swappedStores [tg] e X.env = pure none := by rfl)
    (h1 : (assignEach [tg] X.env).map (·.2) = [assign tg X.env] := by rfl) : PS3 X (.Assign [tg] e pos) (tAsg3 te g) := by
  constructor
  intro pins s σ H ρ M D I r h
  refine wpAny_Assign_stores (thn (he.run pins s σ H ρ M _ I r h) fun v s1 ⟨x, H1, I1, r1, d, M1, f1, d1, rm1, q1⟩ => ?_) hs hw
  rw [h1]
  exact thn (hg.run pins s1 σ H1 ρ M1 x d v _ I1 (r.go f1 rm1) r1 d1 q1) fun _ s2 ⟨σ2, H2, I2, p⟩ => ⟨σ2, H2, I2, p.back f1⟩
variable {o : Expr} {to : TE3} {es : List Expr} {t3 : TA3} {apos : Pos}
@[irreducible] def Hold (p : Prop) : Prop := p
theorem Hold.mk {p : Prop} (h : p) : Hold p := by unfold Hold; exact h
theorem Hold.out {p : Prop} (h : Hold p) : p := by unfold Hold at h; exact h
def runFor (gd : Mp → Prop) (g : TG3) (tb : TS3) (D : En3) : List L3.D → En → Mp → Prop
  | [], ρ, M => gd M ∧ D.nx ρ M
  | x :: xs, ρ, M => gd M ∧ g x ρ M fun ρ2 M2 => tb { D with nx := runFor gd g tb D xs, ct := runFor gd g tb D xs, bk := D.nx } ρ2 M2
structure ItIs (K : PySem.W.Frag) (J : It) (inv : Hp → Prop) (ds : List L3.D) : Prop where
  go : ∀ i H, i < ds.length → inv H → J.go i H
  yld : ∀ i H x H', i < ds.length → inv H → J.yld i H x H' → H' = H ∧ ∃ d, ds[i]? = some d ∧ Dat K H d x
  stop : ∀ H, inv H → J.stop ds.length H
theorem PG3.dn {tg : Expr} {g : TG3} (h : PG3 X tg g) : PG X tg (fun v σ H Q => ∃ ρ M d Q0, Rep X.K H σ ρ M ∧ Dat X.K H d v ∧ g d ρ M Q0 ∧ ∀ σ' H', PostN X.K M H Q0 σ' H' → Q σ' H') :=
  fun pins s σ H v u Q I rv ⟨ρ, M, d, Q0, r, dv, q, k⟩ => thn (h.run pins s σ H ρ M v d u Q0 I r rv dv q) fun _ _ ⟨σ', H', I', p⟩ => ⟨σ', H', I', k _ _ p⟩
theorem for_core {K : PySem.W.Frag} {J : It} {inv : Hp → Prop} {ds : List L3.D} {gd : Mp → Prop} {g : TG3} {tb : TS3} {D : En3} {σ : St} {H H0 : Hp} {ρ : En} {M M0 : Mp} (hJ : ItIs K J inv ds)
    (f0 : Fr M0 H0 M H) (r : Rep K H σ ρ M)
    (stay : ∀ M1 H1, Fr M H M1 H1 → RepM K H1 M1 → gd M1 → inv H1) (q : runFor gd g tb D ds ρ M) :
    ∃ W : Nat → Nat → St → Hp → Prop, (∃ m, W 0 m σ H) ∧ ∀ i m σ H, W i m σ H →
      (J.stop i H ∧ (ends K M0 H0 D).nx σ H) ∨ (J.go i H ∧ ∃ N : St → Hp → Prop, (∀ σ' H', N σ' H' → ∃ m', m' < m ∧ W (i + 1) m' σ' H') ∧ ∀ x H', J.yld i H x H' →
        (∃ ρ M d Q0, Rep K H' σ ρ M ∧ Dat K H' d x ∧ g d ρ M Q0 ∧ ∀ σ2 H2, PostN K M H' Q0 σ2 H2 → dnS K tb { (ends K M0 H0 D) with nx := N, ct := N, bk := (ends K M0 H0 D).nx } σ2 H2)) := by
  refine ⟨fun i m σ1 H1 => m = ds.length - i ∧ i ≤ ds.length ∧ ∃ ρ1 M1, Fr M H M1 H1 ∧ Rep K H1 σ1 ρ1 M1 ∧ runFor gd g tb D (ds.drop i) ρ1 M1, ⟨ds.length, by simp, Nat.zero_le _, ρ, M, .refl _ _, r, by simpa using q⟩, ?_⟩
  rintro i m σ1 H1 ⟨rfl, hi, ρ1, M1, f1, r1, q1⟩
  by_cases hlt : i < ds.length
  · have hdr : ds.drop i = ds[i] :: ds.drop (i + 1) := List.drop_eq_getElem_cons hlt
    rw [hdr] at q1
    obtain ⟨hg, q1⟩ := q1
    have hI1 := stay M1 H1 f1 r1.mem hg
    refine .inr ⟨hJ.go i H1 hlt hI1, fun σ' H' => ∃ ρ' M', Fr M H M' H' ∧ Rep K H' σ' ρ' M' ∧ runFor gd g tb D (ds.drop (i + 1)) ρ' M', fun σ' H' ⟨ρ', M', f', r', q'⟩ => ⟨ds.length - (i + 1), by omega, rfl, hlt, ρ', M', f', r', q'⟩, fun x H' y => ?_⟩
    obtain ⟨e, d, hd1, hd2⟩ := hJ.yld i H1 x H' hlt hI1 y
    subst e
    have ed : d = ds[i] := Option.some.inj (hd1.symm.trans (List.getElem?_eq_getElem hlt))
    subst ed
    refine ⟨ρ1, M1, _, _, r1, hd2, q1, fun σ2 H2 ⟨ρ2, M2, f2, r2, q2⟩ => ?_⟩
    have f12 := f1.trans f2
    have f02 := f0.trans f12
    exact ⟨ρ2, M2, _, r2, q2, fun σ' H' ⟨ρ', M', f, r', z⟩ => ⟨ρ', M', f12.trans f, r', z⟩, fun _ _ p => p.back f02, fun _ _ p => p.back f02, fun σ' H' ⟨ρ', M', f, r', z⟩ => ⟨ρ', M', f12.trans f, r', z⟩⟩
  · have e : i = ds.length := by omega
    subst e
    rw [List.drop_of_length_le (Nat.le_refl _)] at q1
    obtain ⟨hg, q1⟩ := q1
    exact .inl ⟨hJ.stop H1 (stay M1 H1 f1 r1.mem hg), ρ1, M1, f0.trans f1, r1, q1⟩
def tForT (te : TE3) (g : TG3) (tb : TS3) : TS3 := fun D ρ M => te ρ M fun d M1 => ∃ xs, d = .tup xs ∧ runFor (fun _ => True) g tb D xs ρ M1
def tForL (te : TE3) (g : TG3) (tb : TS3) : TS3 := fun D ρ M => te ρ M fun d M1 => ∃ a xs, d = .ref a ∧ M1 a = some (.lst xs) ∧ runFor (fun M => M a = some (.lst xs)) g tb D xs ρ M1
def tForR (t : TA3) (g : TG3) (tb : TS3) : TS3 := fun D ρ M => t ρ M fun vs M1 => ∃ j : Int, vs = [.int j] ∧ -(2 ^ 62) ≤ j ∧ j < 2 ^ 62 ∧ runFor (fun _ => True) g tb D ((List.range j.toNat).map fun (k : Nat) => L3.D.int (k : Int)) ρ M1
variable {tg iter : Expr} {body : List Stmt} {g : TG3} {tb : TS3}
theorem itt_is {K : PySem.W.Frag} {a : Addr} {ds : List L3.D} : ItIs K (Itt K a) (fun H => ∃ vs, H a = some (.tup vs) ∧ Dats K H ds vs) ds :=
  ⟨fun i H hi ⟨vs, h, hd⟩ => ⟨vs, vs[i]'(by rw [← hd.length]; exact hi), SqT.of h, List.getElem?_eq_getElem _⟩, fun i H x H' _ ⟨vs, h, hd⟩ y => ⟨y.1, hd.back (y.2 vs (SqT.of h))⟩, fun H ⟨vs, h, hd⟩ => ⟨vs, SqT.of h, by rw [hd.length]; exact Nat.le_refl _⟩⟩
theorem itl_is {K : PySem.W.Frag} {a : Addr} {ds : List L3.D} : ItIs K (Itl K a) (fun H => ∃ vs, H a = some (.lst vs) ∧ Dats K H ds vs) ds :=
  ⟨fun i H hi ⟨vs, h, hd⟩ => ⟨vs, vs[i]'(by rw [← hd.length]; exact hi), SqL.of h, List.getElem?_eq_getElem _⟩, fun i H x H' _ ⟨vs, h, hd⟩ y => ⟨y.1, hd.back (y.2 vs (SqL.of h))⟩, fun H ⟨vs, h, hd⟩ => ⟨vs, SqL.of h, by rw [hd.length]; exact Nat.le_refl _⟩⟩
theorem itr_is {K : PySem.W.Frag} {n : Nat} : ItIs K (Itr 0 n) (fun _ => True) ((List.range n).map fun (k : Nat) => L3.D.int (k : Int)) :=
  ⟨fun i H hi _ => by show i < n; simpa using hi, fun i H x H' hi _ y => ⟨y.1, L3.D.int (i : Int), by
    have hi : i < n := by simpa using hi
    simp [hi], dat_int.mpr (by rw [y.2, Int.zero_add])⟩, fun H _ => by show n ≤ _; simp⟩
theorem s_forT (hp : PassesOwn (model X.prog X.w) X.A X.env X.xe) (hc : X.calm = true) (hi : PE3 X iter te) (hg : PG3 X tg g) (hb : PSs3 X body tb)
    (hs : ∀ x, foldedSetIterable iter X.env x = pure x := by intro _; rfl) : PS3 X (.For tg iter body [] pos) (tForT te g tb) := upS (ps_for hp hc (pi_tup hi.dn) hg.dn hb.dn hs) fun σ H ρ M D r q => dn_of r q fun v H' d M' f dv r' ⟨xs, e1, q⟩ => by
  subst e1
  obtain ⟨a, ys, rfl, ha, hy⟩ := dat_tup.mp dv
  refine ⟨a, rfl, ⟨ys, SqT.of ha⟩, for_core itt_is f r' (fun M1 H1 f1 _ _ => ⟨ys, ?_, Dats.mono (f1.ext r'.mem) _ _ hy⟩) q⟩
  exact (f1 a _ (r'.mem.notLst ha (fun _ z => by cases z)) ha).1
theorem s_forL (hp : PassesOwn (model X.prog X.w) X.A X.env X.xe) (hc : X.calm = true) (hi : PE3 X iter te) (hg : PG3 X tg g) (hb : PSs3 X body tb)
    (hs : ∀ x, foldedSetIterable iter X.env x = pure x := by intro _; rfl) : PS3 X (.For tg iter body [] pos) (tForL te g tb) := upS (ps_for hp hc (pi_list hi.dn) hg.dn hb.dn hs) fun σ H ρ M D r q => dn_of r q fun v H' d M' f dv r' ⟨a, xs, e1, hM, q⟩ => by
  subst e1
  obtain rfl := dat_ref.mp dv
  obtain ⟨ys, ha, hy⟩ := r'.mem.lst hM
  exact ⟨a, rfl, ⟨ys, SqL.of ha⟩, for_core itl_is f r' (fun M1 H1 f1 rm1 g1 => rm1.lst g1) q⟩
theorem s_forR {a : Expr} {t : TA3} {p rpos : Pos} (hp : PassesOwn (model X.prog X.w) X.A X.env X.xe) (hc : X.calm = true) (hgl : Gl X "range") (hm : X.mg "range" = none) (ha : PA3 X [a] t) (hg : PG3 X tg g) (hb : PSs3 X body tb)
    (hst : starEach [a] X.env = [(false, eval a X.env)] := by rfl)
    (hs : ∀ x, foldedSetIterable (.Call (.Name "range" p) [a] [] rpos) X.env x = pure x := by intro _; rfl) : PS3 X (.For tg (.Call (.Name "range" p) [a] [] rpos) body [] pos) (tForR t g tb) := upS (ps_for hp hc (pi_range1 hgl hm ha.dn hst) hg.dn hb.dn hs) fun σ H ρ M D r q => dnA_of r q fun vs H' ds M' f dv r' ⟨j, e1, h1, h2, q⟩ => by
  subst e1
  obtain ⟨v, rfl, hv⟩ := dats1 dv
  obtain rfl := dat_int.mp hv
  exact ⟨j, rfl, h1, h2, for_core itr_is f r' (fun _ _ _ _ _ => trivial) q⟩
def tApp3 (to te : TE3) : TE3 := fun ρ M Q => to ρ M fun d M1 => (∃ l xs, d = .ref l ∧ M1 l = some (.lst xs)) ∧ te ρ M1 fun e M2 => ∃ l xs, d = .ref l ∧ M2 l = some (.lst xs) ∧ xs.length < sizeLine ∧ Q .non (updM M2 l (.lst (xs ++ [e])))
theorem q_app {o e : Expr} {to te : TE3} {apos : Pos} (ho : PE3 X o to) (he : PE3 X e te) (hpe : PE X (.Call (.Attribute o "append" apos) [e] [] pos) (tBM X.K "list" rAppend (dn X.K to) (tCons (dn X.K te) tNil))) : PE3 X (.Call (.Attribute o "append" apos) [e] [] pos) (tApp3 to te) :=
  up hpe fun σ H ρ M Q r q => dn_of r q fun v H' d M' f dv r' ⟨⟨l, xs, e1, hM⟩, q⟩ => by
    subst e1
    obtain rfl := dat_ref.mp dv
    obtain ⟨ys, ha, hy⟩ := r'.mem.lst hM
    refine ⟨.inl ⟨rfl, _, SqL.of ha⟩, dn_of r' q fun u H2 d2 M2 f2 du r2 ⟨l', xs', e2, hM2, hlt, q2⟩ => ?_⟩
    injection e2 with e2
    subst e2
    obtain ⟨zs, hb, hz⟩ := r2.mem.lst hM2
    refine ⟨l, zs, u, rfl, rfl, hb, by rw [← hz.length]; exact hlt, .non, _, (f.trans f2).trans (Fr.write (K := X.K) hM2), dat_non.mpr rfl, r2.mem.writeL hb (hz.append (Dats.one du)), q2⟩
end
section
variable {P : Program} {w : World} {K : PySem.W.Frag} {mg : Str → Option Value} {base : Heap}
def start3 (N : List Str) (ds : List D) : En := ds.map some ++ List.replicate (N.length - ds.length) none
theorem rep_start {H : Hp} {N : List Str} {ds : List D} {vs : List V} {M : Mp} (h : Dats K H ds vs) (rm : RepM K H M) : Rep K H (L2.start N vs) (start3 N ds) M := by
  have hl := h.length
  refine ⟨fun i d e => ?_, by unfold L2.start start3; simp [hl], rm⟩
  unfold start3 at e
  by_cases hi : i < ds.length
  · rw [List.getElem?_append_left (by simpa using hi), List.getElem?_map] at e
    cases q : ds[i]? with
    | none => rw [q] at e; cases e
    | some d' =>
      rw [q] at e
      cases e
      obtain ⟨v, h1, h2⟩ := h.get q
      refine ⟨v, ?_, h2⟩
      unfold L2.start
      rw [List.getElem?_append_left (by simp; omega), List.getElem?_map, h1]
      rfl
  · rw [List.getElem?_append_right (by simpa using hi), List.getElem?_replicate] at e
    split at e <;> cases e
theorem fnP {x qual : Str} {st : Stmt} {f : Addr} {fd : FuncData} {N ps : List Str} {k : Nat} {S : SpP} (F : Fun K x qual st f fd) (Sc : FnScope N ps (defScope st)) (len : ∀ ds Q, S ds Q → ds.length = ps.length)
    (hbody : ∀ (cdv : Value) (A : Around) (outer : List Env) (s : Shared) (H : Hp), Room k (A.deeper (envOfC qual (defScope st) s.heap.objs.size f cdv)) →
      ∃ t, PSs3 (cxOf CX0 P w K mg base N qual (defScope st) f cdv A outer s H E0).nox (defBody st) t ∧ ∀ ds Q, S ds Q → t { nx := fun _ _ => Q .non, rt := fun d _ => Q d } (start3 N ds) noM) :
    FnOk P w K mg base CX0 (k + 1) f fd ps (spP K S) := by
  refine F.ok Sc (fun vs H Q E h => ?_) (fun cdv A outer s H vs Q E hr h => ?_)
  · obtain ⟨ds, Q0, h1, h2, _⟩ := h
    rw [← h1.length, len ds Q0 h2]
  · obtain ⟨ds, Q0, h1, h2, h3⟩ := h
    obtain ⟨t, ht, hq⟩ := hbody cdv A outer s H hr
    have hE : (cxOf CX0 P w K mg base N qual (defScope st) f cdv A outer s H E).nox = (cxOf CX0 P w K mg base N qual (defScope st) f cdv A outer s H E0).nox := rfl
    refine ⟨_, PSs3.dn (by rw [hE]; exact ht), start3 N ds, noM, _, rep_start h1 RepM.no, hq ds Q0 h2, fun σ' H' ⟨ρ', M', f', r', q⟩ => ?_, fun v H' ⟨d, M', f', dv, rm, q⟩ => ?_, fun _ _ ⟨_, _, _, _, z⟩ => z.elim, fun _ _ ⟨_, _, _, _, z⟩ => z.elim⟩
    · exact h3 .non .non H' q (dat_non.mpr rfl) fun b o e => (f' b o rfl e).1
    · exact h3 d v H' q dv fun b o e => (f' b o rfl e).1
theorem fn3 {x qual : Str} {st : Stmt} {f : Addr} {fd : FuncData} {N ps : List Str} {k : Nat} {S : Sp3} (F : Fun K x qual st f fd) (Sc : FnScope N ps (defScope st)) (len : ∀ ds M Q, S ds M Q → ds.length = ps.length)
    (hbody : ∀ (cdv : Value) (A : Around) (outer : List Env) (s : Shared) (H : Hp), Room k (A.deeper (envOfC qual (defScope st) s.heap.objs.size f cdv)) →
      ∃ t, PSs3 (cxOf CX0 P w K mg base N qual (defScope st) f cdv A outer s H E0).nox (defBody st) t ∧ ∀ ds M Q, S ds M Q → t { nx := fun _ M' => Hold (∃ M0, Le M0 M' ∧ Q .non M0), rt := fun d M' => Hold (∃ M0, Le M0 M' ∧ Q d M0) } (start3 N ds) M) :
    FnOk P w K mg base CX0 (k + 1) f fd ps (sp3 K S) := by
  refine F.ok Sc (fun vs H Q E h => ?_) (fun cdv A outer s H vs Q E hr h => ?_)
  · obtain ⟨ds, M, Q0, h1, _, h2, _⟩ := h
    rw [← h1.length, len ds M Q0 h2]
  · obtain ⟨ds, M, Q0, h1, rm, h2, h3⟩ := h
    obtain ⟨t, ht, hq⟩ := hbody cdv A outer s H hr
    have hE : (cxOf CX0 P w K mg base N qual (defScope st) f cdv A outer s H E).nox = (cxOf CX0 P w K mg base N qual (defScope st) f cdv A outer s H E0).nox := rfl
    refine ⟨_, PSs3.dn (by rw [hE]; exact ht), start3 N ds, M, _, rep_start h1 rm, hq ds M Q0 h2, fun σ' H' ⟨ρ', M', f', r', z⟩ => ?_, fun v H' ⟨d, M', f', dv, rm', z⟩ => ?_, fun _ _ ⟨_, _, _, _, z⟩ => z.elim, fun _ _ ⟨_, _, _, _, z⟩ => z.elim⟩
    · obtain ⟨M0, l, q⟩ := z.out
      exact h3 .non M0 .non H' q (dat_non.mpr rfl) (r'.mem.le l) (f'.le l)
    · obtain ⟨M0, l, q⟩ := z.out
      exact h3 d M0 v H' q dv (rm'.le l) (f'.le l)
end
end L3
namespace L3
open PySem PySem.Spec PyProof.Rows L2
section
variable {X : Cx}
def intsOf : List D → Option (List Int)
  | [] => some []
  | .int i :: ds => (intsOf ds).map (i :: ·)
  | _ :: _ => none
theorem intsOf_map : ∀ {ds : List D} {ns : List Int}, intsOf ds = some ns → ds = ns.map D.int
  | [], ns, h => by cases h; rfl
  | .int i :: ds, ns, h => by
    have h : (intsOf ds).map (i :: ·) = some ns := h
    cases q : intsOf ds with
    | none => rw [q] at h; cases h
    | some ms =>
      rw [q] at h
      have h : i :: ms = ns := Option.some.inj h
      subst h
      rw [intsOf_map q]; rfl
  | .non :: _, ns, h => by cases h
  | .bl _ :: _, ns, h => by cases h
  | .str _ :: _, ns, h => by cases h
  | .ty _ :: _, ns, h => by cases h
  | .ref _ :: _, ns, h => by cases h
  | .tup _ :: _, ns, h => by cases h
  | .frl _ :: _, ns, h => by cases h
  | .thg _ :: _, ns, h => by cases h
  | .exc _ _ _ :: _, ns, h => by cases h
def ltD : D → D → Option Bool
  | .int i, .int j => some (decide (i < j))
  | .tup ds, .tup es => match intsOf ds, intsOf es with
    | some ns, some ms => some (HT.lexLt ns ms)
    | _, _ => none
  | _, _ => none
def rLtD : R3 := fun d e M Q => ∃ b, ltD d e = some b ∧ Q (.bl b) M
theorem o_ltD (hu : X.A.units + 64 < cLine) : Op3 X (compareOp .Lt) rLtD := by
  constructor
  intro pins s σ H M x y d e v u Q I rm rx ry dx dy ⟨b, hb, q⟩
  unfold ltD at hb
  split at hb
  · rename_i i j
    have hb := Option.some.inj hb
    subst hb
    exact o_lt.run pins s σ H M x y _ _ v u Q I rm rx ry dx dy ⟨i, j, rfl, rfl, q⟩
  · rename_i ds es
    split at hb
    · rename_i ns ms h1 h2
      have hb := Option.some.inj hb
      subst hb
      exact (o_ltT hu).run pins s σ H M x y _ _ v u Q I rm rx ry dx dy ⟨ns, ms, by rw [intsOf_map h1], by rw [intsOf_map h2], q⟩
    · cases hb
  · cases hb
theorem boot3_len : bootBuiltins "len" = some (.builtin "len") := by decide +kernel
theorem boot3_min : bootBuiltins "min" = some (.builtin "min") := by decide +kernel
theorem boot3_max : bootBuiltins "max" = some (.builtin "max") := by decide +kernel
theorem boot3_sorted : bootBuiltins "sorted" = some (.builtin "sorted") := by decide +kernel
theorem boot3_isinstance : bootBuiltins "isinstance" = some (.builtin "isinstance") := by decide +kernel
theorem boot3_list : bootBuiltins "list" = some (.type "list") := by decide +kernel
theorem boot3_int : bootBuiltins "int" = some (.type "int") := by decide +kernel
theorem boot3_tuple : bootBuiltins "tuple" = some (.type "tuple") := by decide +kernel
end
theorem pow_mono {m n : Nat} (h : m ≤ n) : 2 ^ m ≤ 2 ^ n := Nat.pow_le_pow_right (by decide) h
theorem Sm.le {m n : Nat} {i : Int} (h : Sm m i) (l : m ≤ n) : Sm n i := Nat.lt_of_lt_of_le h (pow_mono l)
theorem Sm.of_abs {n : Nat} {i j : Int} (h : Sm n j) (l : i.natAbs ≤ j.natAbs) : Sm n i := Nat.lt_of_le_of_lt l h
theorem Sm.add {m n : Nat} {i j : Int} (h1 : Sm m i) (h2 : Sm n j) : Sm (max m n + 1) (i + j) := by
  have a := Nat.lt_of_lt_of_le h1 (pow_mono (Nat.le_max_left m n))
  have b := Nat.lt_of_lt_of_le h2 (pow_mono (Nat.le_max_right m n))
  show (i + j).natAbs < 2 ^ (max m n + 1)
  rw [Nat.pow_succ]
  have := Int.natAbs_add_le i j
  omega
theorem Sm.neg {n : Nat} {i : Int} (h : Sm n i) : Sm n (-i) := by
  show (-i).natAbs < _
  rw [Int.natAbs_neg]; exact h
theorem Sm.sub {m n : Nat} {i j : Int} (h1 : Sm m i) (h2 : Sm n j) : Sm (max m n + 1) (i - j) := by
  rw [Int.sub_eq_add_neg]; exact h1.add h2.neg
theorem Sm.mul {m n : Nat} {i j : Int} (h1 : Sm m i) (h2 : Sm n j) : Sm (m + n) (i * j) := by
  show (i * j).natAbs < 2 ^ (m + n)
  rw [Int.natAbs_mul, Nat.pow_add]
  exact Nat.mul_lt_mul'' h1 h2
theorem Sm.abs {n : Nat} {i : Int} (h : Sm n i) : Sm n (i.natAbs : Int) := h
theorem Sm.emod {n : Nat} {i j : Int} (hj : 0 < j) (h : Sm n j) : Sm n (i % j) := by
  have h1 := Int.emod_nonneg i (show j ≠ 0 by omega)
  have h2 := Int.emod_lt_of_pos i hj
  exact h.of_abs (by omega)
instance {n : Nat} {i : Int} : Decidable (Sm n i) := inferInstanceAs (Decidable (_ < _))
theorem Sm.sign (i : Int) : Sm 1 i.sign := by
  rcases Int.lt_trichotomy i 0 with h | h | h
  · rw [Int.sign_eq_neg_one_of_neg h]; decide
  · subst h; decide
  · rw [Int.sign_eq_one_of_pos h]; decide
theorem MulOk.of {m n : Nat} {i j : Int} (h1 : Sm m i) (h2 : Sm n j) (h : m + n ≤ 100000) : MulOk i j := ⟨m, n, h1, h2, h⟩
theorem Sm.lit (i : Int) : Sm (i.natAbs.log2 + 1) i := Nat.lt_log2_self
theorem Sm.two : Sm 2 2 := by decide
theorem Sm.one : Sm 1 1 := by decide
theorem Sm.zero : Sm 0 0 := by decide
theorem kit_same {K : PySem.W.Frag} {n : String} : PySem.W.kitOne K (.type n) (.type n) = some true := by simp [PySem.W.kitOne]
structure Pl where
  x : Int
  y : Int
  deriving DecidableEq
def Pl.d (p : Pl) : D := .tup [.int p.x, .int p.y]
def Pl.Ok (n : Nat) (p : Pl) : Prop := Sm n p.x ∧ Sm n p.y
theorem eqD_Pl (p q : Pl) : eqD p.d q.d = decide (p = q) := by
  unfold Pl.d
  rw [eqD_tup, eqDs_cons, eqDs_cons, eqDs_nil, eqD_int, eqD_int, Bool.eq_iff_iff]
  cases p; cases q
  simp
end L3
namespace L3
open PySem L2
theorem dats_ints {K : PySem.W.Frag} {H : Hp} : ∀ (ns : List Int), Dats K H (ns.map D.int) (ns.map V.int)
  | [] => dats_nil.mpr rfl
  | n :: ns => dats_cons.mpr ⟨_, _, rfl, dat_int.mpr rfl, dats_ints ns⟩
end L3
namespace L3
theorem runFor_inv {gd : Mp → Prop} {g : TG3} {tb : TS3} {D : En3} {ρ : En} {M : Mp} (Pv : Nat → En → Mp → Prop) : ∀ (xs : List L3.D),
    (∀ (i : Nat) (x : L3.D) (ρ : En) (M : Mp) (N : En → Mp → Prop), xs[i]? = some x → Pv i ρ M → (∀ ρ' M', Pv (i + 1) ρ' M' → N ρ' M') → gd M ∧ g x ρ M fun ρ2 M2 => tb { D with nx := N, ct := N, bk := D.nx } ρ2 M2) →
    (∀ ρ M, Pv xs.length ρ M → gd M ∧ D.nx ρ M) → Pv 0 ρ M → runFor gd g tb D xs ρ M := by
  intro xs hs hd h0
  have key : ∀ (ys : List L3.D) (i : Nat) (ρ : En) (M : Mp), xs.drop i = ys → Pv i ρ M → i ≤ xs.length → runFor gd g tb D ys ρ M := by
    intro ys
    induction ys with
    | nil =>
      intro i ρ M e p hi
      have : xs.length ≤ i := by
        have := congrArg List.length e
        rw [List.length_drop] at this
        simp at this
        omega
      have : i = xs.length := by omega
      subst this
      exact hd ρ M p
    | cons y ys ih =>
      intro i ρ M e p hi
      have hx : xs[i]? = some y := by
        have := congrArg (fun l => l[0]?) e
        simpa using this
      have hlt : i < xs.length := (List.getElem?_eq_some_iff.mp hx).1
      refine hs i y ρ M _ hx p fun ρ' M' p' => ih (i + 1) ρ' M' ?_ p' hlt
      rw [← List.drop_drop, e]
      rfl
  exact key xs 0 ρ M rfl h0 (Nat.zero_le _)
theorem range_get {n i : Nat} {x : L3.D} (h : ((List.range n).map fun (k : Nat) => L3.D.int (k : Int))[i]? = some x) : i < n ∧ x = .int (i : Int) := by
  rw [List.getElem?_map] at h
  by_cases hi : i < n
  · rw [List.getElem?_range hi] at h
    exact ⟨hi, (Option.some.inj h).symm⟩
  · rw [List.getElem?_eq_none (by simp; omega)] at h
    cases h
end L3
namespace L3
def frac (a b : Int) : Pl := ⟨a.fdiv ((Int.gcd a b : Int) * b.sign), b.fdiv ((Int.gcd a b : Int) * b.sign)⟩
def low (a b : Int) : Pl := ⟨a / (Int.gcd a b : Int), b / (Int.gcd a b : Int)⟩
end L3
local macro_rules | `(tactic| walk_at "sm") => `(tactic| first | assumption | exact L3.Sm.sign _ | exact L3.Sm.zero | exact L3.Sm.one | exact L3.Sm.two | ((with_reducible apply L3.Sm.mul) <;> walk_at "sm") | ((with_reducible apply L3.Sm.sub) <;> walk_at "sm") | ((with_reducible apply L3.Sm.add) <;> walk_at "sm") | ((with_reducible apply L3.Sm.neg) <;> walk_at "sm") | ((with_reducible apply L3.Sm.abs) <;> walk_at "sm") | ((with_reducible apply L3.Sm.emod); (first | omega | decide +kernel); walk_at "sm") | exact L3.Sm.lit _)
local macro_rules | `(tactic| walk_at "smle") => `(tactic| (apply L3.Sm.le; walk_at "sm"; first | omega | decide +kernel))
namespace L3
@[irreducible] def sqN (p f g : Pl) : Int := (p.x * f.y - f.x) * g.y * ((p.x * f.y - f.x) * g.y) + (p.y * g.y - g.x) * f.y * ((p.y * g.y - g.x) * f.y)
@[irreducible] def sq (p f g : Pl) : Pl := frac (sqN p f g) (f.y * g.y * (f.y * g.y))
theorem ne_int {i j : Int} (h : i = j) : ¬ ((!eqD (L3.D.int i) (L3.D.int j)) = true) := by
  rw [h, eqD_int, beq_self_eq_true]; decide
end L3
namespace L3
@[irreducible] def tw (a b c : Pl) : Int := (b.x - a.x) * (c.y - a.y) - (b.y - a.y) * (c.x - a.x)
theorem tw_rot (a b c : Pl) : tw b c a = tw a b c := by unfold tw; grind
theorem tw_swap (a b c : Pl) : tw b a c = -tw a b c := by unfold tw; grind
theorem tw_swap2 (a b c : Pl) : tw a c b = -tw a b c := by unfold tw; grind
theorem tw_same1 (a b : Pl) : tw a a b = 0 := by unfold tw; grind
theorem tw_same2 (a b : Pl) : tw a b b = 0 := by unfold tw; grind
theorem tw_same3 (a b : Pl) : tw a b a = 0 := by unfold tw; grind
def bef (p q : Pl) : Prop := p.x < q.x ∨ (p.x = q.x ∧ p.y < q.y)
instance (p q : Pl) : Decidable (bef p q) := inferInstanceAs (Decidable (_ ∨ _))
theorem bef_irrefl (p : Pl) : ¬ bef p p := by unfold bef; omega
theorem bef_trans {p q r : Pl} (a : bef p q) (b : bef q r) : bef p r := by unfold bef at *; omega
theorem bef_asymm {p q : Pl} (a : bef p q) : ¬ bef q p := by unfold bef at *; omega
theorem bef_tri (p q : Pl) : bef p q ∨ p = q ∨ bef q p := by
  unfold bef
  by_cases h : p = q
  · exact .inr (.inl h)
  · have : ¬ (p.x = q.x ∧ p.y = q.y) := fun ⟨a, b⟩ => h (by cases p; cases q; simp only at a b; rw [a, b])
    omega
theorem bef_ne {p q : Pl} (a : bef p q) : p ≠ q := fun e => bef_irrefl q (e ▸ a)
def lo (p q : Pl) : Pl := if bef q p then q else p
def hi (p q : Pl) : Pl := if bef p q then q else p
@[irreducible] def apt (p q : Pl) : Int := (q.x - p.x) * (q.x - p.x) + (q.y - p.y) * (q.y - p.y)
@[irreducible] def dep (a b c d : Pl) : Int := apt d a * tw d b c + apt d b * tw d c a + apt d c * tw d a b
theorem dep_rot (a b c d : Pl) : dep b c a d = dep a b c d := by unfold dep; grind
theorem dep_swap (a b c d : Pl) : dep b a c d = -dep a b c d := by unfold dep; have := tw_swap d; unfold tw; grind
theorem apt_self (a : Pl) : apt a a = 0 := by unfold apt; grind
theorem dep_c (a b c : Pl) : dep a b c c = 0 := by unfold dep; rw [apt_self, tw_same1, tw_same3]; grind
@[irreducible] def rg (a b c d : Pl) : Int := (tw a b c).sign * (dep a b c d).sign
theorem rg_rot (a b c d : Pl) : rg b c a d = rg a b c d := by unfold rg; rw [tw_rot, dep_rot]
theorem rg_swap (a b c d : Pl) : rg b a c d = rg a b c d := by unfold rg; rw [tw_swap, dep_swap, Int.sign_neg, Int.sign_neg, Int.neg_mul_neg]
end L3
namespace L3
def Spo (a b c d : Pl) : Prop := rg a b c d = 1 ∨ (rg a b c d = 0 ∧ d ≠ a ∧ d ≠ b ∧ d ≠ c ∧ ((bef d a ∧ bef d b ∧ bef d c) ∨ (bef a b ∧ bef a c ∧ bef a d ∧ (tw b c d).sign ≠ (tw b c a).sign) ∨ (bef b a ∧ bef b c ∧ bef b d ∧ (tw c a d).sign ≠ (tw c a b).sign) ∨ (bef c a ∧ bef c b ∧ bef c d ∧ (tw a b d).sign ≠ (tw a b c).sign)))
instance (a b c d : Pl) : Decidable (Spo a b c d) := inferInstanceAs (Decidable (_ ∨ _))
theorem Spo_rot1 {a b c d : Pl} (h : Spo a b c d) : Spo b c a d := by
  rcases h with h | ⟨h0, n1, n2, n3, h⟩
  · exact .inl ((rg_rot a b c d).trans h)
  · refine .inr ⟨(rg_rot a b c d).trans h0, n2, n3, n1, ?_⟩
    rcases h with ⟨k1, k2, k3⟩ | ⟨k1, k2, k3, k4⟩ | ⟨k1, k2, k3, k4⟩ | ⟨k1, k2, k3, k4⟩
    · exact .inl ⟨k2, k3, k1⟩
    · exact .inr (.inr (.inr ⟨k1, k2, k3, k4⟩))
    · exact .inr (.inl ⟨k2, k1, k3, k4⟩)
    · exact .inr (.inr (.inl ⟨k2, k1, k3, k4⟩))
theorem Spo_rot (a b c d : Pl) : Spo b c a d ↔ Spo a b c d := ⟨fun h => Spo_rot1 (Spo_rot1 h), Spo_rot1⟩
theorem neg_sign_ne (i j : Int) : ((-i).sign ≠ (-j).sign) ↔ (i.sign ≠ j.sign) := by
  rw [Int.sign_neg, Int.sign_neg]; omega
theorem Spo_swap1 {a b c d : Pl} (h : Spo a b c d) : Spo b a c d := by
  rcases h with h | ⟨h0, n1, n2, n3, h⟩
  · exact .inl ((rg_swap a b c d).trans h)
  · refine .inr ⟨(rg_swap a b c d).trans h0, n2, n1, n3, ?_⟩
    rcases h with ⟨k1, k2, k3⟩ | ⟨k1, k2, k3, k4⟩ | ⟨k1, k2, k3, k4⟩ | ⟨k1, k2, k3, k4⟩
    · exact .inl ⟨k2, k1, k3⟩
    · refine .inr (.inr (.inl ⟨k1, k2, k3, ?_⟩))
      rw [tw_swap b c d, tw_swap b c a]
      exact (neg_sign_ne _ _).mpr k4
    · refine .inr (.inl ⟨k1, k2, k3, ?_⟩)
      rw [tw_swap c a d, tw_swap c a b]
      exact (neg_sign_ne _ _).mpr k4
    · refine .inr (.inr (.inr ⟨k2, k1, k3, ?_⟩))
      rw [tw_swap a b d, tw_swap a b c]
      exact (neg_sign_ne _ _).mpr k4
theorem Spo_swap (a b c d : Pl) : Spo b a c d ↔ Spo a b c d := ⟨Spo_swap1, Spo_swap1⟩
theorem sign_cases (i : Int) : (i < 0 ∧ i.sign = -1) ∨ (i = 0 ∧ i.sign = 0) ∨ (0 < i ∧ i.sign = 1) := by
  rcases Int.lt_trichotomy i 0 with h | h | h
  · exact .inl ⟨h, Int.sign_eq_neg_one_of_neg h⟩
  · exact .inr (.inl ⟨h, by rw [h]; rfl⟩)
  · exact .inr (.inr ⟨h, Int.sign_eq_one_of_pos h⟩)
def Unl (p q r s : Pl) : Prop := (0 < tw p q r ∧ tw p q s < 0) ∨ (tw p q r < 0 ∧ 0 < tw p q s)
theorem Unl.ne {p q r s : Pl} (h : Unl p q r s) : tw p q r ≠ 0 ∧ tw p q s ≠ 0 := by unfold Unl at h; omega
theorem Unl.swap {p q r s : Pl} (h : Unl p q r s) : Unl p q s r := by unfold Unl at *; omega
theorem quad (p q r s : Pl) : tw r s q - tw r s p = tw p q r - tw p q s := by unfold tw; grind
theorem Spo_mid (a b c d : Pl) : Spo a c b d ↔ Spo a b c d := by
  rw [← Spo_rot a c b d, Spo_swap, ← Spo_rot, Spo_rot, Spo_rot]
theorem rg_left {a b c d : Pl} (h : 0 < tw a b c) : rg a b c d = (dep a b c d).sign := by unfold rg; rw [Int.sign_eq_one_of_pos h, Int.one_mul]
theorem Spo_dep {a b x y : Pl} (hx : 0 < tw a b x) (h : Spo a b x y) : 0 ≤ dep a b x y ∧ x ≠ y := by
  unfold Spo at h
  rw [rg_left hx] at h
  rcases sign_cases (dep a b x y) with ⟨v, f⟩ | ⟨v, f⟩ | ⟨v, f⟩ <;> rw [f] at h
  · omega
  · refine ⟨by omega, ?_⟩
    rcases h with h | h
    · cases h
    · exact fun e => h.2.2.2.1 e.symm
  · refine ⟨by omega, fun e => ?_⟩
    subst e
    rw [dep_c] at v
    omega
theorem Spo_of_pos {a b x y : Pl} (hx : 0 < tw a b x) (h : 0 < dep a b x y) : Spo a b x y := by
  left; rw [rg_left hx, Int.sign_eq_one_of_pos h]
theorem bef_or {p q : Pl} (h : p ≠ q) : bef p q ∨ bef q p := by
  rcases bef_tri p q with z | z | z
  · exact .inl z
  · exact absurd z h
  · exact .inr z
end L3
namespace L3
end L3
namespace L3
end L3
namespace L3
open PySem PySem.Spec PyProof.Rows
section
variable {P : Program} {w : World} {A : Around} {E : Value → Shared → Prop} {s : Shared} {κ : KeyKind} {kd : SortKind} {z : Array Keyed} {t : SortSt}
structure Ask (P : Program) (w : World) (A : Around) (s : Shared) (κ : KeyKind) (kd : SortKind) : Prop where
  lt : ∀ (E : Value → Shared → Prop) (x y : Value) (a b : κ.α) (R : Bool → Shared → Prop), κ.keyOf x = some a → κ.keyOf y = some b → R (κ.blt a b) s → wpAny (model P w) A (keyLt' kd x y) R E s
structure Mid (kd : SortKind) (z : Array Keyed) (t : SortSt) : Prop where
  pm : (arrOf t).Perm z
  kd : kindOf t = kd
  ok : failedOf t = none
  no : pendingOf t = #[]
theorem Mid.sz (m : Mid kd z t) : (arrOf t).size = z.size := m.pm.size_eq
theorem Mid.put (m : Mid kd z t) {y : Array Keyed} (h : y.Perm (arrOf t)) : Mid kd z (setArr t y) := ⟨h.trans m.pm, m.kd, m.ok, m.no⟩
theorem Mid.key (m : Mid kd z t) (hk : KeysOf κ z) {i : Nat} (hi : i < z.size) : ∃ x q, (arrOf t)[i]? = some (x, q) ∧ κ.keyOf x = some (KK κ (arrOf t) i) := by
  have hlt : i < (arrOf t).size := m.sz ▸ hi
  have e : (arrOf t)[i]? = some (arrOf t)[i] := getElem?_pos _ i hlt
  obtain ⟨a, ha⟩ := hk (arrOf t)[i] ((Array.perm_iff_toList_perm.mp m.pm).mem_iff.mp (by simp))
  refine ⟨(arrOf t)[i].1, (arrOf t)[i].2, e, ?_⟩
  have ek : KK κ (arrOf t) i = a := by unfold KK; rw [e]; simp only [ha, Option.getD_some]
  rw [ek]; exact ha
theorem ask_at (hA : Ask P w A s κ kd) (m : Mid kd z t) (hk : KeysOf κ z) {i j : Nat} (hi : i < z.size) (hj : j < z.size) {R : Option Bool → SortSt → Prop}
    (h : R (some (κ.blt (KK κ (arrOf t) i) (KK κ (arrOf t) j))) t) : wpS (model P w) A E s (ltAt' i j) R t := by
  obtain ⟨x, p, e1, k1⟩ := m.key hk hi
  obtain ⟨y, q, e2, k2⟩ := m.key hk hj
  rw [ltAt'_eq]
  apply wpS_bind; apply wpS_get
  show wpS (model P w) A E s (elem' (arrOf t) i >>= fun u => elem' (arrOf t) j >>= fun v => lt' u v) R t
  rw [elem'_eq, elem'_eq, e1, e2]
  apply wpS_bind; apply wpS_pure
  apply wpS_bind; apply wpS_pure
  rw [lt'_eq]
  apply wpS_bind; apply wpS_get
  rw [m.kd]
  refine wpS_bind (wpS_lift (wpAny_attempt (hA.lt _ x y _ _ _ k1 k2 ⟨rfl, wpS_pure h⟩)))
theorem rise {y : Array Keyed} {n : Nat} (h : SortedToK κ y n) (hl : 1 ≤ n) (hn : κ.kle (KK κ y (n - 1)) (KK κ y n)) : SortedToK κ y (n + 1) := by
  intro i j hij hj
  rcases Nat.lt_or_ge j n with c | c
  · exact h i j hij c
  · obtain rfl : j = n := by omega
    rcases Nat.lt_or_ge i j with d | d
    · exact KeyOrd.kle_trans (h i (j - 1) (by omega) (by omega)) hn
    · obtain rfl : i = j := by omega
      exact KeyOrd.kle_refl _
theorem fall {y : Array Keyed} {n : Nat} (h : NonIncK κ y n) (hl : 1 ≤ n) (hn : κ.kle (KK κ y n) (KK κ y (n - 1))) : NonIncK κ y (n + 1) := by
  intro i j hij hj
  rcases Nat.lt_or_ge j n with c | c
  · exact h i j hij c
  · obtain rfl : j = n := by omega
    rcases Nat.lt_or_ge i j with d | d
    · exact KeyOrd.kle_trans hn (h i (j - 1) (by omega) (by omega))
    · obtain rfl : i = j := by omega
      exact KeyOrd.kle_refl _
theorem one_up (y : Array Keyed) : SortedToK κ y 1 := by
  intro i j hij hj
  obtain rfl : i = j := by omega
  exact KeyOrd.kle_refl _
theorem one_dn (y : Array Keyed) : NonIncK κ y 1 := by
  intro i j hij hj
  obtain rfl : i = j := by omega
  exact KeyOrd.kle_refl _
theorem run_asc (hA : Ask P w A s κ kd) (hk : KeysOf κ z) (m : Mid kd z t) {a e : Nat} (he : e ≤ z.size) (h1 : 1 ≤ a) (hae : a ≤ e) (up : SortedToK κ (arrOf t) a) {R : AscSt → SortSt → Prop}
    (h : ∀ n, a ≤ n → n ≤ e → SortedToK κ (arrOf t) n → (n < e → κ.klt (KK κ (arrOf t) n) (KK κ (arrOf t) (n - 1))) → R (none, n) t) : wpS (model P w) A E s (ascLoop a e) R t := by
  unfold ascLoop
  refine wpS_forRange (I := fun i b u => b = (none, i) ∧ u = t ∧ SortedToK κ (arrOf t) i) (fun i b u hi1 hi2 hI => ?_) (fun b u hI => ?_) ⟨rfl, rfl, up⟩
  · obtain ⟨rfl, rfl, hup⟩ := hI
    apply wpS_bind
    apply ask_at hA m hk (by show i < z.size; omega) (by show i - 1 < z.size; omega)
    show wpS (model P w) A E s (if κ.blt (KK κ (arrOf u) i) (KK κ (arrOf u) (i - 1)) = true then _ else _) _ u
    cases c : κ.blt (KK κ (arrOf u) i) (KK κ (arrOf u) (i - 1)) with
    | true => rw [if_pos rfl]; exact wpS_pure (h i hi1 (by omega) hup fun _ => c)
    | false => rw [if_neg Bool.false_ne_true]; exact wpS_pure ⟨rfl, rfl, rise hup (by omega) c⟩
  · obtain ⟨rfl, rfl, hup⟩ := hI
    have em : max a e = e := by omega
    rw [em] at hup ⊢
    exact h e hae (Nat.le_refl e) hup fun c => absurd c (Nat.lt_irrefl e)
theorem run_tail (hA : Ask P w A s κ kd) (hk : KeysOf κ z) (m : Mid kd z t) {n e : Nat} (he : e ≤ z.size) (h1 : 1 ≤ n) (hne : n ≤ e) (dn : NonIncK κ (arrOf t) n) {R : Option Nat → SortSt → Prop}
    (h : ∀ i u, Mid kd z u → 1 ≤ i → i ≤ e → SortedToK κ (arrOf u) i → R (some i) u) : wpS (model P w) A E s (tail3 n e) R t := by
  have hz : n ≤ (arrOf t).size := by have := m.sz; omega
  have m2 := m.put (mirror_perm (arrOf t) 0 n ((n - 0) / 2))
  unfold tail3
  apply wpS_bind
  apply wpS_reverse
  apply wpS_bind
  refine run_asc hA hk m2 he h1 hne (fun i j hij hj => ?_) fun i h2 h3 up _ => wpS_pure (h i _ m2 (by omega) h3 up)
  show κ.kle (KK κ (mirror (arrOf t) 0 n ((n - 0) / 2)) i) (KK κ (mirror (arrOf t) 0 n ((n - 0) / 2)) j)
  rw [KK_mirror hz i, KK_mirror hz j, if_pos ⟨Nat.zero_le i, by omega⟩, if_pos ⟨Nat.zero_le j, hj⟩]
  exact dn _ _ (by omega) (by omega)
def Flatq (κ : KeyKind) (y : Array Keyed) (n q : Nat) : Prop := q + 1 ≤ n ∧ ∀ i, n - (q + 1) ≤ i → i < n → KK κ y i = KK κ y (n - 1)
theorem flat0 {y : Array Keyed} {n : Nat} (h : 1 ≤ n) : Flatq κ y n 0 := by
  refine ⟨by omega, fun i h1 h2 => ?_⟩
  obtain rfl : i = n - 1 := by omega
  rfl
theorem run_desc (hA : Ask P w A s κ kd) (hk : KeysOf κ z) (m : Mid kd z t) {a e : Nat} (he : e ≤ z.size) (h1 : 1 ≤ a) (hae : a ≤ e) (dn : NonIncK κ (arrOf t) a) {R : DescSt → SortSt → Prop}
    (h : ∀ n q u, Mid kd z u → a ≤ n → n ≤ e → NonIncK κ (arrOf u) n → Flatq κ (arrOf u) n q → R (none, n, q) u) : wpS (model P w) A E s (descLoop a e) R t := by
  unfold descLoop
  refine wpS_forRange (I := fun i b u => Mid kd z u ∧ NonIncK κ (arrOf u) i ∧ ∃ q, Flatq κ (arrOf u) i q ∧ b = (none, i, q)) (fun i b u hi1 hi2 hI => ?_) (fun b u hI => ?_) ⟨m, dn, 0, flat0 h1, rfl⟩
  · obtain ⟨mu, hd, q, hq, rfl⟩ := hI
    have hz : i ≤ (arrOf u).size := by have := mu.sz; omega
    apply wpS_bind
    apply ask_at hA mu hk (by show i < z.size; omega) (by show i - 1 < z.size; omega)
    show wpS (model P w) A E s (if κ.blt (KK κ (arrOf u) i) (KK κ (arrOf u) (i - 1)) = true then _ else _) _ u
    cases c : κ.blt (KK κ (arrOf u) i) (KK κ (arrOf u) (i - 1)) with
    | true =>
      rw [if_pos rfl]
      have lower : NonIncK κ (arrOf u) (i + 1) := fall hd (by omega) (KeyOrd.kle_of_klt c)
      show wpS (model P w) A E s (if q > 0 then _ else _) _ u
      by_cases d : q > 0
      · rw [if_pos d]
        apply wpS_bind
        apply wpS_reverse
        have same := KK_mirror_equal (κ := κ) hz hq.2
        refine wpS_pure ⟨mu.put (mirror_perm _ _ _ _), fun x y hxy hy => ?_, 0, flat0 (by omega), rfl⟩
        show κ.kle (KK κ (mirror (arrOf u) (i - (q + 1)) i _) y) (KK κ (mirror (arrOf u) (i - (q + 1)) i _) x)
        rw [same, same]
        exact lower x y hxy hy
      · rw [if_neg d]
        exact wpS_pure ⟨mu, lower, 0, flat0 (by omega), rfl⟩
    | false =>
      rw [if_neg Bool.false_ne_true]
      apply wpS_bind
      apply ask_at hA mu hk (by show i - 1 < z.size; omega) (by show i < z.size; omega)
      show wpS (model P w) A E s (if κ.blt (KK κ (arrOf u) (i - 1)) (KK κ (arrOf u) i) = true then _ else _) _ u
      cases d : κ.blt (KK κ (arrOf u) (i - 1)) (KK κ (arrOf u) i) with
      | true => rw [if_pos rfl]; exact wpS_pure (h i q u mu hi1 (by omega) hd hq)
      | false =>
        rw [if_neg Bool.false_ne_true]
        have alike : KK κ (arrOf u) i = KK κ (arrOf u) (i - 1) := κ.total _ _ c d
        refine wpS_pure ⟨mu, fall hd (by omega) d, q + 1, ⟨by have := hq.1; omega, fun x h2 h3 => ?_⟩, rfl⟩
        rw [Nat.add_sub_cancel]
        rcases Nat.lt_or_ge x i with g | g
        · rw [alike]; exact hq.2 x (by omega) g
        · obtain rfl : x = i := by omega
          rfl
  · obtain ⟨mu, hd, q, hq, rfl⟩ := hI
    have em : max a e = e := by omega
    rw [em] at hd hq ⊢
    exact h e q u mu hae (Nat.le_refl e) hd hq
theorem run_part (hA : Ask P w A s κ kd) (hk : KeysOf κ z) (m : Mid kd z t) {n e : Nat} (he : e ≤ z.size) (hne : n + 1 ≤ e) (dn : NonIncK κ (arrOf t) (n + 1)) {R : Option Nat → SortSt → Prop}
    (h : ∀ i u, Mid kd z u → 1 ≤ i → i ≤ e → SortedToK κ (arrOf u) i → R (some i) u) : wpS (model P w) A E s (descPart n e) R t := by
  unfold descPart
  apply wpS_bind
  refine wpS_lift (wpAny_rule ⟨rfl, ?_⟩)
  apply wpS_bind
  refine run_desc hA hk m he (by omega) hne dn fun i q u mu h2 h3 hd hq => ?_
  have hz : i ≤ (arrOf u).size := by have := mu.sz; omega
  show wpS (model P w) A E s (if q > 0 then _ else _) R u
  by_cases d : q > 0
  · rw [if_pos d]
    apply wpS_bind
    apply wpS_reverse
    have same := KK_mirror_equal (κ := κ) hz hq.2
    refine run_tail hA hk (mu.put (mirror_perm _ _ _ _)) he (by omega) h3 (fun x y hxy hy => ?_) h
    show κ.kle (KK κ (mirror (arrOf u) (i - (q + 1)) i _) y) (KK κ (mirror (arrOf u) (i - (q + 1)) i _) x)
    rw [same, same]
    exact hd x y hxy hy
  · rw [if_neg d]
    exact run_tail hA hk mu he (by omega) h3 hd h
theorem run_count (hA : Ask P w A s κ kd) (hk : KeysOf κ z) (m : Mid kd z t) {e : Nat} (he : e ≤ z.size) (h1 : 1 ≤ e) {R : Option Nat → SortSt → Prop}
    (h : ∀ i u, Mid kd z u → 1 ≤ i → i ≤ e → SortedToK κ (arrOf u) i → R (some i) u) : wpS (model P w) A E s (countRun' 0 e) R t := by
  rw [countRun0_eq]
  apply wpS_bind
  refine run_asc hA hk m he (Nat.le_refl 1) h1 (one_up _) fun n h2 h3 up stop => ?_
  show wpS (model P w) A E s (if (n == e) = true then _ else _) R t
  by_cases c : n = e
  · rw [if_pos (beq_iff_eq.mpr c)]
    exact wpS_pure (h n t m h2 h3 up)
  · rw [if_neg fun q => c (beq_iff_eq.mp q)]
    have less := stop (by omega)
    by_cases d : n > 1
    · rw [if_pos d]
      apply wpS_bind
      apply ask_at hA m hk (by omega) (by show n - 1 < z.size; omega)
      show wpS (model P w) A E s (if κ.blt (KK κ (arrOf t) 0) (KK κ (arrOf t) (n - 1)) = true then _ else _) R t
      cases g : κ.blt (KK κ (arrOf t) 0) (KK κ (arrOf t) (n - 1)) with
      | true => rw [if_pos rfl]; exact wpS_pure (h n t m h2 h3 up)
      | false =>
        rw [if_neg Bool.false_ne_true]
        have hz : n ≤ (arrOf t).size := by have := m.sz; omega
        have one : ∀ i, i < n → KK κ (arrOf t) i = KK κ (arrOf t) (n - 1) := fun i hi =>
          KeyOrd.kle_antisymm (up i (n - 1) (by omega) (by omega)) (KeyOrd.kle_trans (show κ.kle (KK κ (arrOf t) (n - 1)) (KK κ (arrOf t) 0) from g) (up 0 i (Nat.zero_le i) hi))
        have same := KK_mirror_equal (κ := κ) hz (fun i (_ : 0 ≤ i) hi => one i hi)
        apply wpS_bind
        apply wpS_reverse
        refine run_part hA hk (m.put (mirror_perm _ _ _ _)) he (by omega) (fall (fun x y hxy hy => ?_) (by omega) ?_) h
        · show κ.kle (KK κ (mirror (arrOf t) 0 n _) y) (KK κ (mirror (arrOf t) 0 n _) x)
          rw [same, same, one x (by omega), one y hy]
          exact KeyOrd.kle_refl _
        · show κ.kle (KK κ (mirror (arrOf t) 0 n _) n) (KK κ (mirror (arrOf t) 0 n _) (n - 1))
          rw [same, same]
          exact KeyOrd.kle_of_klt less
    · rw [if_neg d]
      obtain rfl : n = 1 := by omega
      exact run_part hA hk m he (by omega) (fall (one_dn _) (Nat.le_refl 1) (KeyOrd.kle_of_klt less)) h
structure Cut (κ : KeyKind) (y : Array Keyed) (k l r : Nat) : Prop where
  lr : l ≤ r
  rk : r ≤ k
  lo : ∀ i, i < l → κ.kle (KK κ y i) (KK κ y k)
  hi : ∀ i, r ≤ i → i < k → κ.klt (KK κ y k) (KK κ y i)
theorem Cut.put {y : Array Keyed} {k l : Nat} (c : Cut κ y k l l) (hk : k < y.size) (up : SortedToK κ y k) : SortedToK κ (bubble y k (k - l)) (k + 1) := by
  have hl := c.rk
  have at' : ∀ i, KK κ (bubble y k (k - l)) i = if i = l then KK κ y k else if l < i ∧ i ≤ k then KK κ y (i - 1) else KK κ y i := fun i => by
    have := KK_bubble (κ := κ) hk (Nat.sub_le k l) i
    have e : k - (k - l) = l := by omega
    rw [e] at this
    exact this
  intro i j hij hj
  rw [at' i, at' j]
  by_cases i1 : i = l
  · rw [if_pos i1]
    by_cases j1 : j = l
    · rw [if_pos j1]; exact KeyOrd.kle_refl _
    · rw [if_neg j1, if_pos ⟨by omega, by omega⟩]
      exact KeyOrd.kle_of_klt (c.hi _ (by omega) (by omega))
  · rw [if_neg i1]
    by_cases i2 : l < i ∧ i ≤ k
    · rw [if_pos i2, if_neg (by omega), if_pos ⟨by omega, by omega⟩]
      exact up _ _ (by omega) (by omega)
    · rw [if_neg i2]
      by_cases j1 : j = l
      · rw [if_pos j1]; exact c.lo i (by omega)
      · rw [if_neg j1]
        by_cases j2 : l < j ∧ j ≤ k
        · rw [if_pos j2]; exact up _ _ (by omega) (by omega)
        · rw [if_neg j2]; exact up _ _ hij (by omega)
theorem run_bin (hA : Ask P w A s κ kd) (hk : KeysOf κ z) (m : Mid kd z t) {n o : Nat} (hn : n ≤ z.size) (ho : o ≤ n) (up : SortedToK κ (arrOf t) o) {R : Bool → SortSt → Prop}
    (h : ∀ u, Mid kd z u → SortedToK κ (arrOf u) n → R true u) : wpS (model P w) A E s (binarySort' 0 n o) R t := by
  rw [binarySort'_eq]
  simp only [Nat.zero_add]
  apply wpS_bind
  refine wpS_mono (wpS_forRange (I := fun k b u => b = (none, ()) ∧ Mid kd z u ∧ (k ≤ n → SortedToK κ (arrOf u) k) ∧ (n < k → SortedToK κ (arrOf u) n)) (Q := fun b u => b = (none, ()) ∧ Mid kd z u ∧ SortedToK κ (arrOf u) n)
    (fun k b u hk1 hk2 hI => ?_) (fun b u hI => ?_) ⟨rfl, m, fun c => ?_, fun c => ?_⟩) fun b u hI => ?_
  · obtain ⟨rfl, mu, up1, _⟩ := hI
    have upk := up1 (by omega)
    apply wpS_bind
    refine wpS_mono (wpS_forRange (I := fun x b v => v = u ∧ ∃ l r, b = (none, l, r) ∧ Cut κ (arrOf u) k l r ∧ r - l ≤ k - x) (Q := fun b v => v = u ∧ ∃ l, b = (none, l, l) ∧ Cut κ (arrOf u) k l l)
      (fun x b v _ hx hI => ?_) (fun b v hI => ?_) ⟨rfl, 0, k, rfl, ⟨Nat.zero_le k, Nat.le_refl k, fun i hi => absurd hi (Nat.not_lt_zero i), fun i h2 h3 => absurd h3 (Nat.not_lt.mpr h2)⟩, Nat.le_refl _⟩) fun b v hI => ?_
    · obtain ⟨rfl, l, r, rfl, c, hw⟩ := hI
      show wpS (model P w) A E s (if l ≥ r then _ else _) _ v
      by_cases d : l ≥ r
      · rw [if_pos d]
        obtain rfl : l = r := Nat.le_antisymm c.lr d
        exact wpS_pure ⟨rfl, l, rfl, c⟩
      · rw [if_neg d]
        have hrk := c.rk
        apply wpS_bind
        apply ask_at hA mu hk (by show k < z.size; omega) (by show (l + r) / 2 < z.size; omega)
        show wpS (model P w) A E s (if κ.blt (KK κ (arrOf v) k) (KK κ (arrOf v) ((l + r) / 2)) = true then _ else _) _ v
        cases g : κ.blt (KK κ (arrOf v) k) (KK κ (arrOf v) ((l + r) / 2)) with
        | true =>
          rw [if_pos rfl]
          exact wpS_pure ⟨rfl, l, (l + r) / 2, rfl, ⟨by omega, by omega, c.lo, fun i h2 h3 => KeyOrd.klt_of_klt_of_kle g (upk _ i h2 h3)⟩, by omega⟩
        | false =>
          rw [if_neg Bool.false_ne_true]
          exact wpS_pure ⟨rfl, (l + r) / 2 + 1, r, rfl, ⟨by omega, by omega, fun i h2 => KeyOrd.kle_trans (upk i _ (by omega) (by omega)) g, c.hi⟩, by omega⟩
    · obtain ⟨rfl, l, r, rfl, c, hw⟩ := hI
      have e : max 0 k = k := by omega
      rw [e] at hw
      obtain rfl : l = r := by have := c.lr; omega
      exact ⟨rfl, l, rfl, c⟩
    · obtain ⟨rfl, l, rfl, c⟩ := hI
      show wpS (model P w) A E s (moveDown' k l >>= fun _ => pure (ForInStep.yield (none, ()))) _ v
      rw [moveDown'_eq]
      apply wpS_bind
      apply wpS_modify
      have hz : k < (arrOf v).size := by have := mu.sz; omega
      exact wpS_pure ⟨rfl, mu.put (bubble_perm _ _ _), fun _ => c.put hz upk, fun q => by omega⟩
  · obtain ⟨rfl, mu, up1, up2⟩ := hI
    refine ⟨rfl, mu, ?_⟩
    rcases Nat.lt_or_ge n (max (max o 1) n) with c | c
    · exact up2 c
    · have e : max (max o 1) n = n := by omega
      rw [e] at up1
      exact up1 (Nat.le_refl n)
  · rcases Nat.eq_zero_or_pos o with q | q
    · have e : max o 1 = 1 := by omega
      rw [e]; exact one_up _
    · have e : max o 1 = o := by omega
      rw [e]; exact up
  · have e : n = 0 := by omega
    subst e
    exact fun i j _ hj => absurd hj (Nat.not_lt_zero j)
  · obtain ⟨rfl, mu, up'⟩ := hI
    exact wpS_pure (h u mu up')
structure Fin3 (κ : KeyKind) (z : Array Keyed) (t : SortSt) : Prop where
  pm : (arrOf t).Perm z
  ok : failedOf t = none
  one : pendingOf t = #[(0, z.size, 0)]
  up : SortedToK κ (arrOf t) z.size
theorem Mid.fin (m : Mid kd z t) (up : SortedToK κ (arrOf t) z.size) : Fin3 κ z (setPending t ((pendingOf t).push (0, z.size, 0))) :=
  ⟨m.pm, m.ok, by show (pendingOf t).push (0, z.size, 0) = #[(0, z.size, 0)]; rw [m.no]; rfl, up⟩
theorem run_all (hA : Ask P w A s κ kd) (hk : KeysOf κ z) (m : Mid kd z t) (h2 : 2 ≤ z.size) (h64 : z.size < 64) {R : Unit → SortSt → Prop} (h : ∀ u, Fin3 κ z u → R () u) : wpS (model P w) A E s sortRuns' R t := by
  have low : minRun' z.size z.size 0 = z.size := by
    obtain ⟨k, hk⟩ : ∃ k, z.size = k + 1 := ⟨z.size - 1, by omega⟩
    have : minRun' (k + 1) z.size 0 = z.size + 0 := by rw [minRun'_succ, if_pos h64]
    rw [← hk] at this
    exact this
  rw [sortRuns'_eq]
  apply wpS_bind; apply wpS_get
  dsimp only
  simp only [m.sz, low]
  apply wpS_bind
  refine wpS_mono (wpS_forRange (I := fun x b u => if x = 0 then b = (none, 0) ∧ Mid kd z u else b = (none, z.size) ∧ Fin3 κ z u) (Q := fun b u => b = (none, z.size) ∧ Fin3 κ z u) (fun x b u _ hx hI => ?_) (fun b u hI => ?_) ?_) fun b u hI => ?_
  · by_cases c : x = 0
    · subst c
      obtain ⟨rfl, mu⟩ : b = (none, 0) ∧ Mid kd z u := by simpa using hI
      dsimp only
      rw [if_neg (by omega : ¬ (0 ≥ z.size))]
      simp only [Nat.sub_zero, Nat.min_self, Nat.zero_add]
      apply wpS_bind
      refine run_count hA hk mu (Nat.le_refl _) (by omega) fun i v mv h3 h4 up => ?_
      dsimp only
      by_cases d : i < z.size
      · rw [if_pos d]
        apply wpS_bind
        refine wpS_lift (wpAny_rule ⟨rfl, ?_⟩)
        apply wpS_bind
        refine run_bin hA hk mv (Nat.le_refl _) h4 up fun v' mv' up' => ?_
        simp only [Bool.not_true, Bool.false_eq_true, if_false]
        apply wpS_bind; apply wpS_get
        have e : (pendingOf v').back? = none := by rw [mv'.no]; rfl
        rw [e]
        dsimp only
        apply wpS_bind
        apply wpS_modify
        exact wpS_pure ⟨rfl, mv'.fin up'⟩
      · rw [if_neg d]
        obtain rfl : i = z.size := by omega
        apply wpS_bind; apply wpS_get
        have e : (pendingOf v).back? = none := by rw [mv.no]; rfl
        rw [e]
        dsimp only
        apply wpS_bind
        apply wpS_modify
        exact wpS_pure ⟨rfl, mv.fin up⟩
    · obtain ⟨rfl, fu⟩ : b = (none, z.size) ∧ Fin3 κ z u := by simpa [c] using hI
      dsimp only
      rw [if_pos (Nat.le_refl z.size)]
      exact wpS_pure ⟨rfl, fu⟩
  · have c : max 0 z.size ≠ 0 := by omega
    rw [if_neg c] at hI
    exact hI
  · exact ⟨rfl, m⟩
  · obtain ⟨rfl, fu⟩ := hI
    dsimp only
    apply wpS_bind
    refine wpS_mono (wpS_forRange (I := fun _ b v => b = (none, ()) ∧ v = u) (Q := fun b v => b = (none, ()) ∧ v = u) (fun x b v _ _ hI => ?_) (fun _ _ hI => hI) ⟨rfl, rfl⟩) fun b v hI => ?_
    · obtain ⟨rfl, rfl⟩ := hI
      apply wpS_bind; apply wpS_get
      rw [if_pos (by rw [fu.one]; exact Nat.le_refl 1)]
      exact wpS_pure ⟨rfl, rfl⟩
    · obtain ⟨rfl, rfl⟩ := hI
      exact wpS_pure (h v fu)
end
end L3
namespace L3
open PySem PySem.Spec PyProof.Rows
section
variable {P : Program} {w : World} {A : Around} {E : Value → Shared → Prop} {s : Shared} {κ : KeyKind} {kd : SortKind}
def Grow (h h' : Heap) : Prop := ∀ b o, h.get? b = some o → h'.get? b = some o
theorem sort_by {a : Addr} {vs : List Value} {n : Nat} {R : Fin → Shared → Prop} (ho : s.heap.get? a = some (seqObj "list" vs.toArray n)) (hk : KeysOf κ (pairsOf vs))
    (hd : ∀ (t : Shared) (E : Value → Shared → Prop) (Q : SortKind → Shared → Prop), (∀ b o, b ≠ a → s.heap.get? b = some o → t.heap.get? b = some o) → 2 ≤ vs.length → Q kd t → wpAny (model P w) A (keyKind' vs.toArray) Q E t)
    (hA : ∀ t : Shared, (∀ b o, b ≠ a → s.heap.get? b = some o → t.heap.get? b = some o) → Ask P w A t κ kd) (h64 : vs.length < 64)
    (h : ∀ y : Array Keyed, y.Perm (pairsOf vs) → SortedToK κ y (pairsOf vs).size → R (.done (.ret .none)) { s with heap := sortedHeap s.heap a vs (y.map (·.2)) }) :
    wpAny (model P w) A (Builtin.«list.sort» ⟨[.ref a], []⟩) R E s := by
  have la : a < s.heap.objs.size := Heap.lt_size ho
  have lz : vs.length ≤ sizeLine := by rw [sizeLine_eq]; omega
  rw [list_sort_plain]
  apply wpAny_bind; apply listItems_at ho rfl
  refine wpAny_bind (listUpdate_at ho rfl ?_ (hsz := by simp only [List.size_toArray]; omega) (hsz2 := Nat.zero_le _))
  obtain ⟨e, h1⟩ : ∃ e, (s.heap.update a (Obj.mapSeq fun _ => #[])).get? a = some (seqObj "list" #[] e) := ⟨_, get?_update_seq ho fun _ => #[]⟩
  apply wpAny_bind; apply seqEpoch_at h1 rfl
  refine wpAny_bind (wpAny_newTuple (hsz := lz) ?_)
  refine wpAny_bind (wpAny_newList (hsz := Nat.zero_le _) ?_)
  apply wpAny_holding
  show wpAny (model P w) A _ R E { s with heap := ((s.heap.update a (Obj.mapSeq fun _ => #[])).push (seqObj "tuple" vs.toArray 0)).push (seqObj "list" #[] 0) }
  generalize hh : ((s.heap.update a (Obj.mapSeq fun _ => #[])).push (seqObj "tuple" vs.toArray 0)).push (seqObj "list" #[] 0) = g
  have g1 : g.get? a = some (seqObj "list" #[] e) := by
    rw [← hh, Heap.get?_push_ne _ _ _ (by rw [size_push', Heap.size_update]; exact Nat.ne_of_lt (Nat.lt_succ_of_lt la)), Heap.get?_push_ne _ _ _ (by rw [Heap.size_update]; exact Nat.ne_of_lt la)]
    exact h1
  have g2 : ∀ b o, b ≠ a → s.heap.get? b = some o → g.get? b = some o := fun b o hb q => by
    have lb := Heap.lt_size q
    rw [← hh, Heap.get?_push_ne _ _ _ (by rw [size_push', Heap.size_update]; exact Nat.ne_of_lt (Nat.lt_succ_of_lt lb)), Heap.get?_push_ne _ _ _ (by rw [Heap.size_update]; exact Nat.ne_of_lt lb), Heap.get?_update_ne _ _ _ _ hb]
    exact q
  have fin : ∀ y : Array Keyed, y.Perm (pairsOf vs) → SortedToK κ y (pairsOf vs).size → R (.done (.ret .none)) { s with heap := g.update a (Obj.mapSeq fun _ => y.map (·.2)) } := fun y h2 h3 => by rw [← hh]; exact h y h2 h3
  dsimp only
  have zv : vs.toArray.size = vs.length := by simp
  have room : ∀ y : Array Keyed, y.Perm (pairsOf vs) → (y.map (·.2)).size ≤ sizeLine + 1 := fun y q => by
    rw [Array.size_map, q.size_eq, pairsOf_size, sizeLine_eq]; omega
  by_cases c : vs.toArray.size < 2
  · rw [if_pos c, if_pos c]
    apply wpAny_bind; apply wpAny_pure
    rw [StateT.run_pure]
    apply wpAny_bind; apply wpAny_pure
    dsimp only
    apply wpAny_bind; apply seqEpoch_at g1 rfl
    apply wpAny_bind
    refine listUpdate_at g1 rfl ?_ (hsz2 := room (pairsOf vs) (Array.Perm.refl _))
    simp only [bne_self_eq_false, Bool.false_eq_true, if_false]
    refine wpAny_pure (fin (pairsOf vs) (Array.Perm.refl _) fun i j hij hj => ?_)
    obtain rfl : i = j := by rw [pairsOf_size] at hj; omega
    exact KeyOrd.kle_refl _
  · rw [if_neg c, if_neg c]
    apply wpAny_bind
    refine hd _ _ _ g2 (by omega) ?_
    apply wpAny_bind
    refine wpAny_mono (run_all (z := pairsOf vs) (t := SortSt.mk' kd (pairsOf vs) #[] 7 none) (R := fun _ u => Fin3 κ (pairsOf vs) u) (hA _ g2) hk ⟨Array.Perm.refl _, rfl, rfl, rfl⟩ (by rw [pairsOf_size]; omega) (by rw [pairsOf_size]; exact h64) fun u q => q) (fun r s' q => ?_) fun _ _ q => q
    obtain ⟨⟨⟩, u⟩ := r
    obtain ⟨rfl, fu⟩ := q
    dsimp only
    apply wpAny_bind; apply seqEpoch_at g1 rfl
    apply wpAny_bind
    refine listUpdate_at g1 rfl ?_ (hsz2 := room (arrOf u) fu.pm)
    rw [fu.ok]
    simp only [bne_self_eq_false, Bool.false_eq_true, if_false]
    exact wpAny_pure (fin (arrOf u) fu.pm fu.up)
theorem sorted_by {l : Addr} {vs : List Value} {Q : Value → Shared → Prop} (hl : s.heap.IsList l vs.toArray) (hk : KeysOf κ (pairsOf vs))
    (hd : ∀ (t : Shared) (E : Value → Shared → Prop) (Q : SortKind → Shared → Prop), Grow s.heap t.heap → 2 ≤ vs.length → Q kd t → wpAny (model P w) A.in1.in1 (keyKind' vs.toArray) Q E t)
    (hA : ∀ t : Shared, Grow s.heap t.heap → Ask P w A.in1.in1 t κ kd) (h64 : vs.length < 64)
    (h : ∀ y : Array Keyed, y.Perm (pairsOf vs) → SortedToK κ y (pairsOf vs).size → Q (.ref (s.heap.objs.size + 1)) { s with heap := sortedAll s.heap vs (y.map (·.2)) }) :
    wpAny (model P w) A (call (.builtin "sorted") [.ref l]) Q E s := by
  refine Calls.call_function_entry kind_sorted plain_sorted entry_sorted (args_sorted1 _) ?_
  unfold Builtin.«sorted»
  refine wpAny_bind (m := checkCount "sorted" 1 1 _) (wpAny_pure ?_)
  have lz : vs.length ≤ sizeLine := by rw [sizeLine_eq]; omega
  refine wpAny_bind (collect_list hl (hsz := lz) ?_)
  refine wpAny_bind (wpAny_newList (hsz := lz) ?_)
  show wpAny (model P w) A.in1 _ _ _ { s with heap := ((s.heap.push (seqObj "list" #[] 0)).update s.heap.objs.size (Obj.mapSeq (· ++ vs.toArray))).push (seqObj "list" vs.toArray 0) }
  generalize hg : (s.heap.push (seqObj "list" #[] 0)).update s.heap.objs.size (Obj.mapSeq (· ++ vs.toArray)) = g
  have gz : g.objs.size = s.heap.objs.size + 1 := by rw [← hg, Heap.size_update, size_push']
  have gk : Grow s.heap g := fun b o q => by
    have lb := Heap.lt_size q
    rw [← hg, Heap.get?_update_ne _ _ _ _ (Nat.ne_of_lt lb), Heap.get?_push_ne _ _ _ (Nat.ne_of_lt lb)]
    exact q
  have fin : ∀ y : Array Keyed, y.Perm (pairsOf vs) → SortedToK κ y (pairsOf vs).size → Q (.ref (s.heap.objs.size + 1)) { s with heap := sortedHeap (g.push (seqObj "list" vs.toArray 0)) (s.heap.objs.size + 1) vs (y.map (·.2)) } := fun y h1 h2 => by rw [← hg]; exact h y h1 h2
  rw [gz]
  have at' : (g.push (seqObj "list" vs.toArray 0)).get? (s.heap.objs.size + 1) = some (seqObj "list" vs.toArray 0) := by rw [← gz]; exact Heap.get?_push_size _ rfl
  have gk2 : ∀ b o, s.heap.get? b = some o → b ≠ s.heap.objs.size + 1 ∧ (g.push (seqObj "list" vs.toArray 0)).get? b = some o := fun b o q => by
    have lb := Heap.lt_size q
    have lc := Nat.ne_of_lt (Nat.lt_succ_of_lt lb)
    refine ⟨lc, ?_⟩
    rw [Heap.get?_push_ne _ _ _ (by rw [gz]; exact lc)]
    exact gk b o q
  apply wpAny_bind; apply wpAny_holding
  refine wpAny_call_entry slot_list_sort ⟨_, at', rfl⟩ entry_list_sort (sort_by (κ := κ) (kd := kd) at' hk (fun t E Q hg => hd t E Q fun b o q => hg b o (gk2 b o q).1 (gk2 b o q).2) (fun t hg => hA t fun b o q => hg b o (gk2 b o q).1 (gk2 b o q).2) h64 fun y h1 h2 => ⟨_, rfl, ?_⟩) (args_list_sort _)
  exact wpAny_pure ⟨_, rfl, fin y h1 h2⟩
end
end L3
namespace L3
open PySem PySem.Spec PyProof.Rows
def At2 (h : Heap) (v : Value) (p : Pl) : Prop := ∃ (a : Addr) (o : Obj) (t u : Tok) (n : Nat), v = .ref a ∧ h.get? a = some o ∧ o.cls = .type "tuple" ∧ o.data = .seq #[.int p.x t, .int p.y u] n
theorem At2.grow {h h' : Heap} {v : Value} {p : Pl} (a : At2 h v p) (g : Grow h h') : At2 h' v p := by
  obtain ⟨b, o, t, u, n, h1, h2, h3, h4⟩ := a
  exact ⟨b, o, t, u, n, h1, g _ _ h2, h3, h4⟩
theorem At2.inj {h : Heap} {v : Value} {p q : Pl} (a : At2 h v p) (b : At2 h v q) : p = q := by
  obtain ⟨a1, o, t, u, n, rfl, h2, h3, h4⟩ := a
  obtain ⟨a2, o', t', u', n', e, k2, k3, k4⟩ := b
  injection e with e
  subst e
  rw [h2] at k2
  injection k2 with k2
  subst k2
  rw [h4] at k4
  injection k4 with k4 _
  cases p; cases q
  simp at k4
  obtain ⟨⟨e1, _⟩, e2, _⟩ := k4
  rw [e1, e2]
open Classical in
noncomputable def kPl (h : Heap) : KeyKind where
  α := Pl
  blt p q := decide (bef p q)
  irrefl p := decide_eq_false (bef_irrefl p)
  trans p q r a b := decide_eq_true (bef_trans (of_decide_eq_true a) (of_decide_eq_true b))
  negTrans p q r a := by
    have a := of_decide_eq_true a
    rcases bef_tri p q with c | c | c
    · exact .inl (decide_eq_true c)
    · subst c; exact .inr (decide_eq_true a)
    · exact .inr (decide_eq_true (bef_trans c a))
  total p q a b := by
    rcases bef_tri p q with c | c | c
    · exact absurd c (of_decide_eq_false a)
    · exact c
    · exact absurd c (of_decide_eq_false b)
  keyOf v := if e : ∃ p, At2 h v p then some e.choose else none
  dflt := ⟨0, 0⟩
open Classical in
theorem kPl_key {h : Heap} {v : Value} {p : Pl} (a : At2 h v p) : (kPl h).keyOf v = some p := by
  have e : ∃ p, At2 h v p := ⟨p, a⟩
  show (if e : ∃ p, At2 h v p then some e.choose else none) = some p
  rw [dif_pos e, At2.inj e.choose_spec a]
open Classical in
theorem kPl_of {h : Heap} {v : Value} {p : Pl} (a : (kPl h).keyOf v = some p) : At2 h v p := by
  have a : (if e : ∃ p, At2 h v p then some e.choose else none) = some p := a
  by_cases e : ∃ p, At2 h v p
  · rw [dif_pos e] at a
    have := e.choose_spec
    rwa [Option.some.inj a] at this
  · rw [dif_neg e] at a; cases a
section
variable {P : Program} {w : World} {A : Around} {E : Value → Shared → Prop} {s : Shared}
theorem keyLt_tup (f : Bool) (v u : Value) : keyLt' (tuples' f) v u = (do
    let a ← Builtin.List.listItems v; let b ← Builtin.List.listItems u
    for ((c, d), k) in (a.toList.zip b.toList).zipIdx do { if !(← eqBool c d) then return ← oneLt' (f && k == 0) c d }
    return a.size < b.size) := rfl
theorem oneLt_int' {b : Bool} {i j : Int} {t u : Tok} {Q : Bool → Shared → Prop} (h : Q (decide (i < j)) s) : wpAny (model P w) A (oneLt' b (.int i t) (.int j u)) Q E s := by
  cases b with
  | true => exact oneLt_int h
  | false =>
    rw [oneLt'_eq]
    simp only [Bool.false_eq_true, if_false]
    apply wpAny_bind
    refine (lt_int ?_ : wpAny (model P w) A (compareOp .Lt (.int i t) (.int j u)) _ E s)
    exact wpAny_truthy_bool h
theorem lt_pl {t : Shared} {x y : Value} {p q : Pl} {f : Bool} {R : Bool → Shared → Prop} (kx : At2 t.heap x p) (ky : At2 t.heap y q) (hR : R (decide (bef p q)) t) : wpAny (model P w) A (keyLt' (tuples' f) x y) R E t := by
  obtain ⟨a, o, t1, u1, n1, rfl, h2, h3, h4⟩ := kx
  obtain ⟨b, o', t2, u2, n2, rfl, k2, k3, k4⟩ := ky
  rw [keyLt_tup]
  apply wpAny_bind; apply listItems_at h2 h4
  apply wpAny_bind; apply listItems_at k2 k4
  simp only [List.zip_cons_cons, List.zip_nil_right, List.zipIdx_cons, List.zipIdx_nil, List.forIn_cons, List.forIn_nil, bind_assoc]
  apply wpAny_bind
  apply wpAny_eqBool_int
  by_cases ex : p.x = q.x
  · have e : (p.x == q.x) = true := beq_iff_eq.mpr ex
    rw [e]
    simp only [Bool.not_true, Bool.false_eq_true, if_false, pure_bind, bind_assoc]
    apply wpAny_bind
    apply wpAny_eqBool_int
    by_cases ey : p.y = q.y
    · have e : (p.y == q.y) = true := beq_iff_eq.mpr ey
      rw [e]
      simp only [Bool.not_true, Bool.false_eq_true, if_false, pure_bind]
      have en : decide (bef p q) = false := decide_eq_false (by unfold bef; omega)
      rw [en] at hR
      exact wpAny_pure hR
    · have e : (p.y == q.y) = false := beq_eq_false_iff_ne.mpr ey
      rw [e]
      simp only [Bool.not_false, if_true, bind_assoc, pure_bind]
      apply wpAny_bind
      apply oneLt_int'
      have en : decide (bef p q) = decide (p.y < q.y) := by rw [decide_eq_decide]; unfold bef; omega
      rw [en] at hR
      exact wpAny_pure hR
  · have e : (p.x == q.x) = false := beq_eq_false_iff_ne.mpr ex
    rw [e]
    simp only [Bool.not_false, if_true, bind_assoc, pure_bind]
    apply wpAny_bind
    apply oneLt_int'
    have en : decide (bef p q) = decide (p.x < q.x) := by rw [decide_eq_decide]; unfold bef; omega
    rw [en] at hR
    exact wpAny_pure hR
theorem ask_pl {h : Heap} {t : Shared} (g : Grow h t.heap) (f : Bool) : Ask P w A t (kPl h) (tuples' f) :=
  ⟨fun E x y p q R kx ky hR => lt_pl ((kPl_of kx).grow g) ((kPl_of ky).grow g) hR⟩
theorem wp_mapM {β : Type} {f : Value → Sem β} (R : Value → β → Prop) : ∀ (vs : List Value) (Q : List β → Shared → Prop), (∀ v ∈ vs, ∀ (Q : β → Shared → Prop), (∀ b, R v b → Q b s) → wpAny (model P w) A (f v) Q E s) →
    (∀ bs : List β, Paired R vs bs → Q bs s) → wpAny (model P w) A (vs.mapM f) Q E s
  | [], Q, _, h => by rw [List.mapM_nil]; exact wpAny_pure (h [] .nil)
  | v :: vs, Q, hv, h => by
    rw [List.mapM_cons]
    apply wpAny_bind
    refine hv v (List.mem_cons_self ..) _ fun b rb => ?_
    apply wpAny_bind
    refine wp_mapM R vs _ (fun u hu => hv u (List.mem_cons_of_mem _ hu)) fun bs rbs => ?_
    exact wpAny_pure (h (b :: bs) (.cons rb rbs))
theorem first_tup (v : Value) : firstOfTuple' v = (typeOf v >>= fun t => if t != .type "tuple" then pure none else Builtin.List.listItems v >>= fun a => pure a[0]?) := rfl
theorem kind_pl {vs : List Value} (h2 : 1 ≤ vs.length) (hv : ∀ v ∈ vs, ∃ p, At2 s.heap v p) {Q : SortKind → Shared → Prop} (h : Q (tuples' true) s) : wpAny (model P w) A (keyKind' vs.toArray) Q E s := by
  rw [keyKind'_eq, List.mapM_toArray]
  simp only [bind_map_left]
  apply wpAny_bind
  refine wp_mapM (fun _ b => ∃ i t, b = some (Value.int i t)) vs _ (fun v hm Q hQ => ?_) fun bs hb => ?_
  · obtain ⟨p, a, o, t, u, n, rfl, k2, k3, k4⟩ := hv v hm
    rw [first_tup]
    apply wpAny_bind
    refine wpAny_typeOf (T := "tuple") ⟨o, k2, k3⟩ ?_
    have e : (Value.type "tuple" != Value.type "tuple") = false := by decide
    rw [e]
    simp only [Bool.false_eq_true, if_false, pure_bind]
    apply wpAny_bind; apply listItems_at k2 k4
    exact wpAny_pure (hQ _ ⟨p.x, t, rfl⟩)
  · have all : ∀ (vs : List Value) (bs : List (Option Value)), Paired (fun _ b => ∃ i t, b = some (Value.int i t)) vs bs → bs.length = vs.length ∧ (∀ b ∈ bs, ∃ i t, b = some (Value.int i t)) := by
      intro vs
      induction vs with
      | nil => intro bs q; cases q; exact ⟨rfl, fun _ z => by cases z⟩
      | cons v vs ih =>
        intro bs q
        cases q with
        | cons q1 q2 =>
          obtain ⟨l, m⟩ := ih _ q2
          refine ⟨by simp [l], fun b hb => ?_⟩
          rcases List.mem_cons.mp hb with rfl | hb
          · exact q1
          · exact m b hb
    obtain ⟨hl, hm⟩ := all vs bs hb
    have c : (bs.toArray.all fun b => b.isSome) = true := by
      simp only [List.all_toArray, List.all_eq_true]
      intro b hb
      obtain ⟨i, t, rfl⟩ := hm b hb
      rfl
    rw [if_pos c]
    apply wpAny_bind; apply wpAny_rule
    rw [oneTypeOnly'_eq]
    have ef : bs.toArray.filterMap id = (bs.filterMap id).toArray := by simp
    rw [ef, List.mapM_toArray]
    simp only [bind_map_left, bind_assoc]
    apply wpAny_bind
    refine wp_mapM (fun _ b => b = Value.type "int") _ _ (fun v hv' Q hQ => ?_) fun cs hc => ?_
    · obtain ⟨b, hb1, hb2⟩ := List.mem_filterMap.mp hv'
      obtain ⟨i, t, rfl⟩ := hm b hb1
      have hb2 : some (Value.int i t) = some v := hb2
      cases hb2
      exact wpAny_typeOf (T := "int") (typeIs_int s i t) (hQ _ rfl)
    · have len : 1 ≤ (bs.filterMap id).length := by
        cases bs with
        | nil => simp at hl; omega
        | cons b bs =>
          obtain ⟨i, t, rfl⟩ := hm b (List.mem_cons_self ..)
          simp
      have all2 : ∀ (us cs : List Value), Paired (fun _ b => b = Value.type "int") us cs → cs = us.map fun _ => Value.type "int" := by
        intro us
        induction us with
        | nil => intro cs q; cases q; rfl
        | cons u us ih => intro cs q; cases q with | cons q1 q2 => rw [q1, ih _ q2]; rfl
      rw [all2 _ _ hc]
      generalize bs.filterMap id = us at len
      cases us with
      | nil => simp at len
      | cons u us =>
        have e0 : (List.map (fun _ => Value.type "int") (u :: us)).toArray[0]? = some (Value.type "int") := by simp
        rw [e0]
        have e1 : ((List.map (fun _ => Value.type "int") (u :: us)).toArray.all fun x => x == Value.type "int") = true := by
          simp only [List.all_toArray, List.all_map, List.all_eq_true]
          intro _ _; rfl
        simp only [e1, if_true, pure_bind]
        exact wpAny_pure h
end
end L3
namespace L3
open PySem PySem.Spec PyProof.Rows
section
variable {P : Program} {w : World} {A : Around} {E : Value → Shared → Prop} {s : Shared}
theorem min_go {h0 : Heap} {I S : Addr} {fp wr : List Addr} {n : Nat} {Pr : Nat → Value → Prop} {St : Nat → Heap → Prop} {bt : Nat → Nat → Bool} {R : Result → Shared → Prop} (W : Walks P w A.in1 I fp wr n Pr St)
    (hc : ∀ (i j : Nat) (vi vj : Value) (t : Shared) (Q : Value → Shared → Prop) (E : Value → Shared → Prop), Grow h0 t.heap → Pr i vi → Pr j vj → Q (.bool (bt i j)) t → wpAny (model P w) A.in1 (richCompare .Lt vi vj) Q E t)
    (hS : S ∉ fp) (h0w : ∀ b o, h0.get? b = some o → b ∉ wr ∧ b ≠ S) : ∀ (m k : Nat) (t : Shared) (vb : Value) (c : Nat), n - (k + 1) = m → k + 1 ≤ n → Grow h0 t.heap → St (k + 1) t.heap → Pr (argBest bt k) vb →
    t.heap.get? S = some { cls := .type "list", dict := none, data := .seq #[vb, vb] c, slots := #[] } →
    (∀ v h' tk, Pr (argBest bt (n - 1)) v → (∀ b o, b ∉ wr → b ≠ S → t.heap.get? b = some o → h'.get? b = some o) → R (.ok (.ret v)) { t with heap := h', toks := tk }) →
    codeAny (model P w) A (.builtin "min.loop" ⟨[.ref I, .none, .ref S], []⟩) R t := by
  have Sw : S ∉ wr := fun q => hS (W.sub _ q)
  have nm : (toString "min" ++ toString ".loop" : String) = "min.loop" := by decide
  intro m
  induction m with
  | zero =>
    intro k t vb c e1 e2 gr st pb hs hR
    have ek : k + 1 = n := by omega
    refine codeAny_builtin F.entry_min_loop ?_
    rw [Around.under_plainId F.plain_min_loop]
    show wpAny (model P w) A.in1 (seqItems? (.ref S) >>= _) _ _ t
    apply wpAny_bind; apply wpAny_seqItems hs rfl
    show wpAny (model P w) A.in1 (tryCatch (pyNext (.ref I)) _ >>= _) _ _ t
    apply wpAny_bind; apply wpAny_tryCatch
    refine W.done t _ _ (ek ▸ st) fun h' tk kp => ?_
    have hs2 := kp S _ Sw hs
    show wpAny (model P w) A.in1 (updateSeq S (fun _ => #[]) >>= _) _ _ _
    apply wpAny_bind
    refine wpAny_updateSeq hs2 rfl ?_
    apply wpAny_bind; apply wpAny_letGo; apply wpAny_pure
    exact hR vb _ tk (by rw [← ek]; exact pb) fun b o q1 q2 q => (Heap.get?_update_other _ _ (Ne.symm q2)).trans (kp b o q1 q)
  | succ m ih =>
    intro k t vb c e1 e2 gr st pb hs hR
    refine codeAny_builtin F.entry_min_loop ?_
    rw [Around.under_plainId F.plain_min_loop]
    show wpAny (model P w) A.in1 (seqItems? (.ref S) >>= _) _ _ t
    apply wpAny_bind; apply wpAny_seqItems hs rfl
    show wpAny (model P w) A.in1 (tryCatch (pyNext (.ref I)) _ >>= _) _ _ t
    apply wpAny_bind; apply wpAny_tryCatch
    refine W.item (k + 1) t _ _ (by omega) st fun v h' tk pv st2 kp => ?_
    have hs2 := kp S _ Sw hs
    have gr2 : Grow h0 h' := fun b o q => kp b o (h0w b o q).1 (gr b o q)
    show wpAny (model P w) A.in1 (tryCatch (holding [v, v] (richCompare .Lt v vb >>= _)) _ >>= _) _ _ _
    apply wpAny_bind; apply wpAny_tryCatch; apply wpAny_holding; apply wpAny_bind
    refine hc (k + 1) (argBest bt k) v vb _ _ _ gr2 pv pb ?_
    apply wpAny_bind; apply wpAny_holding; apply wpAny_truthy_bool
    apply wpAny_bind; apply wpAny_letGo; apply wpAny_pure
    cases d : bt (k + 1) (argBest bt k) with
    | true =>
      rw [if_pos rfl]
      apply wpAny_bind
      refine wpAny_updateSeq hs2 rfl ?_
      apply wpAny_bind; apply wpAny_letGo
      rw [nm]
      refine wpAny_pure ⟨plainId_quiet F.plain_min_loop _, ih (k + 1) _ v _ (by omega) (by omega) (fun b o q => (Heap.get?_update_other _ _ (Ne.symm (h0w b o q).2)).trans (gr2 b o q)) (W.frame _ _ _ st2 fun b q1 o q => (Heap.get?_update_other _ _ (fun z : S = b => hS (z ▸ q1))).trans q) (by simp only [argBest, d, if_true]; exact pv) (Heap.get?_update_self _ hs2 rfl) fun v2 h2 tk2 p2 kp2 => ?_⟩
      exact hR v2 h2 tk2 p2 fun b o q1 q2 q => kp2 b o q1 q2 ((Heap.get?_update_other _ _ (Ne.symm q2)).trans (kp b o q1 q))
    | false =>
      rw [if_neg Bool.false_ne_true]
      apply wpAny_bind; apply wpAny_letGo
      rw [nm]
      refine wpAny_pure ⟨plainId_quiet F.plain_min_loop _, ih (k + 1) _ vb c (by omega) (by omega) gr2 st2 (by simp only [argBest, d, Bool.false_eq_true, if_false]; exact pb) hs2 fun v2 h2 tk2 p2 kp2 => ?_⟩
      exact hR v2 h2 tk2 p2 fun b o q1 q2 q => kp2 b o q1 q2 (kp b o q1 q)
theorem min_start {h0 : Heap} {I S : Addr} {fp wr : List Addr} {n : Nat} {Pr : Nat → Value → Prop} {St : Nat → Heap → Prop} {bt : Nat → Nat → Bool} {R : Result → Shared → Prop} {t : Shared} {c : Nat} (W : Walks P w A.in1 I fp wr n Pr St)
    (hc : ∀ (i j : Nat) (vi vj : Value) (t : Shared) (Q : Value → Shared → Prop) (E : Value → Shared → Prop), Grow h0 t.heap → Pr i vi → Pr j vj → Q (.bool (bt i j)) t → wpAny (model P w) A.in1 (richCompare .Lt vi vj) Q E t)
    (hS : S ∉ fp) (h0w : ∀ b o, h0.get? b = some o → b ∉ wr ∧ b ≠ S) (hn : 0 < n) (gr : Grow h0 t.heap) (st : St 0 t.heap) (hs : t.heap.get? S = some { cls := .type "list", dict := none, data := .seq #[] c, slots := #[] })
    (hR : ∀ v h' tk, Pr (argBest bt (n - 1)) v → (∀ b o, b ∉ wr → b ≠ S → t.heap.get? b = some o → h'.get? b = some o) → R (.ok (.ret v)) { t with heap := h', toks := tk }) :
    codeAny (model P w) A (.builtin "min.loop" ⟨[.ref I, .none, .ref S], []⟩) R t := by
  have Sw : S ∉ wr := fun q => hS (W.sub _ q)
  have nm : (toString "min" ++ toString ".loop" : String) = "min.loop" := by decide
  refine codeAny_builtin F.entry_min_loop ?_
  rw [Around.under_plainId F.plain_min_loop]
  show wpAny (model P w) A.in1 (seqItems? (.ref S) >>= _) _ _ t
  apply wpAny_bind; apply wpAny_seqItems hs rfl
  show wpAny (model P w) A.in1 (tryCatch (pyNext (.ref I)) _ >>= _) _ _ t
  apply wpAny_bind; apply wpAny_tryCatch
  refine W.item 0 t _ _ hn st fun v h' tk pv st2 kp => ?_
  have hs2 := kp S _ Sw hs
  have gr2 : Grow h0 h' := fun b o q => kp b o (h0w b o q).1 (gr b o q)
  show wpAny (model P w) A.in1 (updateSeq S (fun _ => #[v, v]) >>= _) _ _ _
  apply wpAny_bind
  refine wpAny_updateSeq hs2 rfl ?_
  rw [nm]
  refine wpAny_pure ⟨plainId_quiet F.plain_min_loop _, min_go W hc hS h0w _ 0 _ v _ rfl hn (fun b o q => (Heap.get?_update_other _ _ (Ne.symm (h0w b o q).2)).trans (gr2 b o q)) (W.frame _ _ _ st2 fun b q1 o q => (Heap.get?_update_other _ _ (fun z : S = b => hS (z ▸ q1))).trans q) pv (Heap.get?_update_self _ hs2 rfl) fun v2 h2 tk2 p2 kp2 => ?_⟩
  exact hR v2 h2 tk2 p2 fun b o q1 q2 q => kp2 b o q1 q2 ((Heap.get?_update_other _ _ (Ne.symm q2)).trans (kp b o q1 q))
theorem min_many {vs : List Value} {bt : Nat → Nat → Bool} {Q : Value → Shared → Prop} (ha : argsOk "min" ⟨vs, []⟩) (h2 : 2 ≤ vs.length) (hz : vs.length < 64) (hh : A.handled = none)
    (hc : ∀ (i j : Nat) (vi vj : Value) (t : Shared) (Q : Value → Shared → Prop) (E : Value → Shared → Prop), Grow s.heap t.heap → vs[i]? = some vi → vs[j]? = some vj → Q (.bool (bt i j)) t → wpAny (model P w) A.in1 (richCompare .Lt vi vj) Q E t)
    (h : ∀ v h' tk, vs[argBest bt (vs.length - 1)]? = some v → Grow s.heap h' → Q v { s with heap := h', toks := tk }) : wpAny (model P w) A (call (.builtin "min") vs) Q E s := by
  have nm : (toString "min" ++ toString ".loop" : String) = "min.loop" := by decide
  have lz : vs.length ≤ sizeLine := by rw [sizeLine_eq]; omega
  refine call_function_tree F.kind_min F.plain_min F.entry_min ha ?_
  match vs, h2 with
  | v1 :: v2 :: rest, _ =>
    show wpAny (model P w) A.in1 (Builtin.Builtins.bindParams "min" ["key", "default"] 0 ⟨[], []⟩ >>= _) _ _ s
    refine wpAny_bind (wpAny_of_eq (show Builtin.Builtins.bindParams "min" ["key", "default"] 0 ⟨[], []⟩ = pure [none, none] from rfl) ?_)
    show wpAny (model P w) A.in1 (newTuple (v1 :: v2 :: rest) >>= _) _ _ s
    refine wpAny_bind (wpAny_newTuple (hsz := lz) ?_)
    have sz1 : (s.heap.push { cls := .type "tuple", data := .seq (v1 :: v2 :: rest).toArray }).objs.size = s.heap.objs.size + 1 := Heap.size_push ..
    have tp : (s.heap.push { cls := .type "tuple", data := .seq (v1 :: v2 :: rest).toArray }).IsTuple s.heap.objs.size (v1 :: v2 :: rest).toArray := ⟨_, Heap.get?_push_size _ rfl, rfl, 0, rfl⟩
    refine wpAny_bind (wpAny_pyIter_tuple tp ?_)
    generalize hg : s.heap.push { cls := .type "tuple", data := .seq (v1 :: v2 :: rest).toArray } = g at sz1 tp
    have k0 : Grow s.heap g := fun b o q => by rw [← hg]; exact Heap.get?_push_of_some _ q
    apply wpAny_bind
    refine wpAny_newObj_type ?_
    have sz2 : (g.push { cls := .type "tuple_iterator", data := .fields #[.ref s.heap.objs.size, .int 0 0] }).objs.size = s.heap.objs.size + 2 := by rw [Heap.size_push, sz1]
    rw [nm]
    refine wpAny_pure ⟨plainId_quiet F.plain_min_loop _, min_start (h0 := s.heap) (Walks.tuple (A := A.in1) hh _ s.heap.objs.size (by rw [sz1]; exact Nat.ne_of_lt (Nat.lt_succ_self _)) (v1 :: v2 :: rest).toArray) (bt := bt) (fun i j vi vj t Q E g1 p1 p2 q => hc i j vi vj t Q E g1 (by simpa using p1) (by simpa using p2) q) ?_ (fun b o q => ?_) (by simp) (fun b o q => Heap.get?_push_of_some _ (Heap.get?_push_of_some _ (k0 b o q))) ⟨⟨_, Heap.get?_push_of_some _ (Heap.get?_push_size _ rfl), rfl, rfl⟩, (tp.push _).push _⟩ (Heap.get?_push_size _ rfl) fun v h' tk p kp => ?_⟩
    · intro q
      rw [sz1, sz2] at q
      rcases List.mem_cons.mp q with q | q
      · exact absurd q (by intro z; exact absurd (Nat.succ.inj z) (Nat.succ_ne_self _))
      · have q := List.mem_singleton.mp q
        exact absurd q (by intro z; have : s.heap.objs.size + 2 = s.heap.objs.size := z; omega)
    · have lb := Heap.lt_size q
      rw [sz1, sz2]
      refine ⟨fun z => ?_, fun z => ?_⟩
      · have z := List.mem_singleton.mp z
        rw [z] at lb
        exact absurd lb (Nat.not_lt.mpr (Nat.le_succ _))
      · rw [z] at lb
        exact absurd lb (Nat.not_lt.mpr (Nat.le_add_right _ 2))
    · refine h v h' tk (by simpa using p) fun b o q => ?_
      have lb := Heap.lt_size q
      refine kp b o (fun z => ?_) (fun z => ?_) (Heap.get?_push_of_some _ (Heap.get?_push_of_some _ (k0 b o q)))
      · have z := List.mem_singleton.mp z
        rw [z, sz1] at lb
        exact absurd lb (Nat.not_lt.mpr (Nat.le_succ _))
      · rw [z, sz2] at lb
        exact absurd lb (Nat.not_lt.mpr (Nat.le_add_right _ 2))
theorem max_go {h0 : Heap} {I S : Addr} {fp wr : List Addr} {n : Nat} {Pr : Nat → Value → Prop} {St : Nat → Heap → Prop} {bt : Nat → Nat → Bool} {R : Result → Shared → Prop} (W : Walks P w A.in1 I fp wr n Pr St)
    (hc : ∀ (i j : Nat) (vi vj : Value) (t : Shared) (Q : Value → Shared → Prop) (E : Value → Shared → Prop), Grow h0 t.heap → Pr i vi → Pr j vj → Q (.bool (bt i j)) t → wpAny (model P w) A.in1 (richCompare .Gt vi vj) Q E t)
    (hS : S ∉ fp) (h0w : ∀ b o, h0.get? b = some o → b ∉ wr ∧ b ≠ S) : ∀ (m k : Nat) (t : Shared) (vb : Value) (c : Nat), n - (k + 1) = m → k + 1 ≤ n → Grow h0 t.heap → St (k + 1) t.heap → Pr (argBest bt k) vb →
    t.heap.get? S = some { cls := .type "list", dict := none, data := .seq #[vb, vb] c, slots := #[] } →
    (∀ v h' tk, Pr (argBest bt (n - 1)) v → (∀ b o, b ∉ wr → b ≠ S → t.heap.get? b = some o → h'.get? b = some o) → R (.ok (.ret v)) { t with heap := h', toks := tk }) →
    codeAny (model P w) A (.builtin "max.loop" ⟨[.ref I, .none, .ref S], []⟩) R t := by
  have Sw : S ∉ wr := fun q => hS (W.sub _ q)
  have nm : (toString "max" ++ toString ".loop" : String) = "max.loop" := by decide
  intro m
  induction m with
  | zero =>
    intro k t vb c e1 e2 gr st pb hs hR
    have ek : k + 1 = n := by omega
    refine codeAny_builtin F.entry_max_loop ?_
    rw [Around.under_plainId F.plain_max_loop]
    show wpAny (model P w) A.in1 (seqItems? (.ref S) >>= _) _ _ t
    apply wpAny_bind; apply wpAny_seqItems hs rfl
    show wpAny (model P w) A.in1 (tryCatch (pyNext (.ref I)) _ >>= _) _ _ t
    apply wpAny_bind; apply wpAny_tryCatch
    refine W.done t _ _ (ek ▸ st) fun h' tk kp => ?_
    have hs2 := kp S _ Sw hs
    show wpAny (model P w) A.in1 (updateSeq S (fun _ => #[]) >>= _) _ _ _
    apply wpAny_bind
    refine wpAny_updateSeq hs2 rfl ?_
    apply wpAny_bind; apply wpAny_letGo; apply wpAny_pure
    exact hR vb _ tk (by rw [← ek]; exact pb) fun b o q1 q2 q => (Heap.get?_update_other _ _ (Ne.symm q2)).trans (kp b o q1 q)
  | succ m ih =>
    intro k t vb c e1 e2 gr st pb hs hR
    refine codeAny_builtin F.entry_max_loop ?_
    rw [Around.under_plainId F.plain_max_loop]
    show wpAny (model P w) A.in1 (seqItems? (.ref S) >>= _) _ _ t
    apply wpAny_bind; apply wpAny_seqItems hs rfl
    show wpAny (model P w) A.in1 (tryCatch (pyNext (.ref I)) _ >>= _) _ _ t
    apply wpAny_bind; apply wpAny_tryCatch
    refine W.item (k + 1) t _ _ (by omega) st fun v h' tk pv st2 kp => ?_
    have hs2 := kp S _ Sw hs
    have gr2 : Grow h0 h' := fun b o q => kp b o (h0w b o q).1 (gr b o q)
    show wpAny (model P w) A.in1 (tryCatch (holding [v, v] (richCompare .Gt v vb >>= _)) _ >>= _) _ _ _
    apply wpAny_bind; apply wpAny_tryCatch; apply wpAny_holding; apply wpAny_bind
    refine hc (k + 1) (argBest bt k) v vb _ _ _ gr2 pv pb ?_
    apply wpAny_bind; apply wpAny_holding; apply wpAny_truthy_bool
    apply wpAny_bind; apply wpAny_letGo; apply wpAny_pure
    cases d : bt (k + 1) (argBest bt k) with
    | true =>
      rw [if_pos rfl]
      apply wpAny_bind
      refine wpAny_updateSeq hs2 rfl ?_
      apply wpAny_bind; apply wpAny_letGo
      rw [nm]
      refine wpAny_pure ⟨plainId_quiet F.plain_max_loop _, ih (k + 1) _ v _ (by omega) (by omega) (fun b o q => (Heap.get?_update_other _ _ (Ne.symm (h0w b o q).2)).trans (gr2 b o q)) (W.frame _ _ _ st2 fun b q1 o q => (Heap.get?_update_other _ _ (fun z : S = b => hS (z ▸ q1))).trans q) (by simp only [argBest, d, if_true]; exact pv) (Heap.get?_update_self _ hs2 rfl) fun v2 h2 tk2 p2 kp2 => ?_⟩
      exact hR v2 h2 tk2 p2 fun b o q1 q2 q => kp2 b o q1 q2 ((Heap.get?_update_other _ _ (Ne.symm q2)).trans (kp b o q1 q))
    | false =>
      rw [if_neg Bool.false_ne_true]
      apply wpAny_bind; apply wpAny_letGo
      rw [nm]
      refine wpAny_pure ⟨plainId_quiet F.plain_max_loop _, ih (k + 1) _ vb c (by omega) (by omega) gr2 st2 (by simp only [argBest, d, Bool.false_eq_true, if_false]; exact pb) hs2 fun v2 h2 tk2 p2 kp2 => ?_⟩
      exact hR v2 h2 tk2 p2 fun b o q1 q2 q => kp2 b o q1 q2 (kp b o q1 q)
theorem max_start {h0 : Heap} {I S : Addr} {fp wr : List Addr} {n : Nat} {Pr : Nat → Value → Prop} {St : Nat → Heap → Prop} {bt : Nat → Nat → Bool} {R : Result → Shared → Prop} {t : Shared} {c : Nat} (W : Walks P w A.in1 I fp wr n Pr St)
    (hc : ∀ (i j : Nat) (vi vj : Value) (t : Shared) (Q : Value → Shared → Prop) (E : Value → Shared → Prop), Grow h0 t.heap → Pr i vi → Pr j vj → Q (.bool (bt i j)) t → wpAny (model P w) A.in1 (richCompare .Gt vi vj) Q E t)
    (hS : S ∉ fp) (h0w : ∀ b o, h0.get? b = some o → b ∉ wr ∧ b ≠ S) (hn : 0 < n) (gr : Grow h0 t.heap) (st : St 0 t.heap) (hs : t.heap.get? S = some { cls := .type "list", dict := none, data := .seq #[] c, slots := #[] })
    (hR : ∀ v h' tk, Pr (argBest bt (n - 1)) v → (∀ b o, b ∉ wr → b ≠ S → t.heap.get? b = some o → h'.get? b = some o) → R (.ok (.ret v)) { t with heap := h', toks := tk }) :
    codeAny (model P w) A (.builtin "max.loop" ⟨[.ref I, .none, .ref S], []⟩) R t := by
  have Sw : S ∉ wr := fun q => hS (W.sub _ q)
  have nm : (toString "max" ++ toString ".loop" : String) = "max.loop" := by decide
  refine codeAny_builtin F.entry_max_loop ?_
  rw [Around.under_plainId F.plain_max_loop]
  show wpAny (model P w) A.in1 (seqItems? (.ref S) >>= _) _ _ t
  apply wpAny_bind; apply wpAny_seqItems hs rfl
  show wpAny (model P w) A.in1 (tryCatch (pyNext (.ref I)) _ >>= _) _ _ t
  apply wpAny_bind; apply wpAny_tryCatch
  refine W.item 0 t _ _ hn st fun v h' tk pv st2 kp => ?_
  have hs2 := kp S _ Sw hs
  have gr2 : Grow h0 h' := fun b o q => kp b o (h0w b o q).1 (gr b o q)
  show wpAny (model P w) A.in1 (updateSeq S (fun _ => #[v, v]) >>= _) _ _ _
  apply wpAny_bind
  refine wpAny_updateSeq hs2 rfl ?_
  rw [nm]
  refine wpAny_pure ⟨plainId_quiet F.plain_max_loop _, max_go W hc hS h0w _ 0 _ v _ rfl hn (fun b o q => (Heap.get?_update_other _ _ (Ne.symm (h0w b o q).2)).trans (gr2 b o q)) (W.frame _ _ _ st2 fun b q1 o q => (Heap.get?_update_other _ _ (fun z : S = b => hS (z ▸ q1))).trans q) pv (Heap.get?_update_self _ hs2 rfl) fun v2 h2 tk2 p2 kp2 => ?_⟩
  exact hR v2 h2 tk2 p2 fun b o q1 q2 q => kp2 b o q1 q2 ((Heap.get?_update_other _ _ (Ne.symm q2)).trans (kp b o q1 q))
theorem max_many {vs : List Value} {bt : Nat → Nat → Bool} {Q : Value → Shared → Prop} (ha : argsOk "max" ⟨vs, []⟩) (h2 : 2 ≤ vs.length) (hz : vs.length < 64) (hh : A.handled = none)
    (hc : ∀ (i j : Nat) (vi vj : Value) (t : Shared) (Q : Value → Shared → Prop) (E : Value → Shared → Prop), Grow s.heap t.heap → vs[i]? = some vi → vs[j]? = some vj → Q (.bool (bt i j)) t → wpAny (model P w) A.in1 (richCompare .Gt vi vj) Q E t)
    (h : ∀ v h' tk, vs[argBest bt (vs.length - 1)]? = some v → Grow s.heap h' → Q v { s with heap := h', toks := tk }) : wpAny (model P w) A (call (.builtin "max") vs) Q E s := by
  have nm : (toString "max" ++ toString ".loop" : String) = "max.loop" := by decide
  have lz : vs.length ≤ sizeLine := by rw [sizeLine_eq]; omega
  refine call_function_tree F.kind_max F.plain_max F.entry_max ha ?_
  match vs, h2 with
  | v1 :: v2 :: rest, _ =>
    show wpAny (model P w) A.in1 (Builtin.Builtins.bindParams "max" ["key", "default"] 0 ⟨[], []⟩ >>= _) _ _ s
    refine wpAny_bind (wpAny_of_eq (show Builtin.Builtins.bindParams "max" ["key", "default"] 0 ⟨[], []⟩ = pure [none, none] from rfl) ?_)
    show wpAny (model P w) A.in1 (newTuple (v1 :: v2 :: rest) >>= _) _ _ s
    refine wpAny_bind (wpAny_newTuple (hsz := lz) ?_)
    have sz1 : (s.heap.push { cls := .type "tuple", data := .seq (v1 :: v2 :: rest).toArray }).objs.size = s.heap.objs.size + 1 := Heap.size_push ..
    have tp : (s.heap.push { cls := .type "tuple", data := .seq (v1 :: v2 :: rest).toArray }).IsTuple s.heap.objs.size (v1 :: v2 :: rest).toArray := ⟨_, Heap.get?_push_size _ rfl, rfl, 0, rfl⟩
    refine wpAny_bind (wpAny_pyIter_tuple tp ?_)
    generalize hg : s.heap.push { cls := .type "tuple", data := .seq (v1 :: v2 :: rest).toArray } = g at sz1 tp
    have k0 : Grow s.heap g := fun b o q => by rw [← hg]; exact Heap.get?_push_of_some _ q
    apply wpAny_bind
    refine wpAny_newObj_type ?_
    have sz2 : (g.push { cls := .type "tuple_iterator", data := .fields #[.ref s.heap.objs.size, .int 0 0] }).objs.size = s.heap.objs.size + 2 := by rw [Heap.size_push, sz1]
    rw [nm]
    refine wpAny_pure ⟨plainId_quiet F.plain_max_loop _, max_start (h0 := s.heap) (Walks.tuple (A := A.in1) hh _ s.heap.objs.size (by rw [sz1]; exact Nat.ne_of_lt (Nat.lt_succ_self _)) (v1 :: v2 :: rest).toArray) (bt := bt) (fun i j vi vj t Q E g1 p1 p2 q => hc i j vi vj t Q E g1 (by simpa using p1) (by simpa using p2) q) ?_ (fun b o q => ?_) (by simp) (fun b o q => Heap.get?_push_of_some _ (Heap.get?_push_of_some _ (k0 b o q))) ⟨⟨_, Heap.get?_push_of_some _ (Heap.get?_push_size _ rfl), rfl, rfl⟩, (tp.push _).push _⟩ (Heap.get?_push_size _ rfl) fun v h' tk p kp => ?_⟩
    · intro q
      rw [sz1, sz2] at q
      rcases List.mem_cons.mp q with q | q
      · exact absurd q (by intro z; exact absurd (Nat.succ.inj z) (Nat.succ_ne_self _))
      · have q := List.mem_singleton.mp q
        exact absurd q (by intro z; have : s.heap.objs.size + 2 = s.heap.objs.size := z; omega)
    · have lb := Heap.lt_size q
      rw [sz1, sz2]
      refine ⟨fun z => ?_, fun z => ?_⟩
      · have z := List.mem_singleton.mp z
        rw [z] at lb
        exact absurd lb (Nat.not_lt.mpr (Nat.le_succ _))
      · rw [z] at lb
        exact absurd lb (Nat.not_lt.mpr (Nat.le_add_right _ 2))
    · refine h v h' tk (by simpa using p) fun b o q => ?_
      have lb := Heap.lt_size q
      refine kp b o (fun z => ?_) (fun z => ?_) (Heap.get?_push_of_some _ (Heap.get?_push_of_some _ (k0 b o q)))
      · have z := List.mem_singleton.mp z
        rw [z, sz1] at lb
        exact absurd lb (Nat.not_lt.mpr (Nat.le_succ _))
      · rw [z, sz2] at lb
        exact absurd lb (Nat.not_lt.mpr (Nat.le_add_right _ 2))
end
end L3
namespace HT
open PySem PyProof.Rows
theorem rcGt_int (A : Around) (s : Shared) (a : Int) (t : Tok) (c : Int) (u : Tok) (prog : Program) (w : World) (E : Value → Shared → Prop) (Q : Value → Shared → Prop) (h : Q (.bool (decide (c < a))) s) :
    wpAny (model prog w) A (richCompare .Gt (.int a t) (.int c u)) Q E s :=
  (PyProof.Rows.gt_int h : wpAny (model prog w) A (compareOp .Gt (.int a t) (.int c u)) Q E s)
section
open PySem.SeqAt
open PySem.AutoSeq1 (wpAny_loadPart')
open PySem.MeetsSeq PySem.MeetsSeq2 PySem.MeetsSeq3
theorem tuple_gt_ints (l b : Addr) (items items2 : Array Value) (n n2 : Nat) (dd dd2 : Option Addr) (sl sl2 : Array (Option Value)) (ns ms : List Int) (hi : IntsAre items.toList ns) (hj : IntsAre items2.toList ms) :
    Meets (Builtin.«tuple.__gt__» ⟨[.ref l, .ref b], []⟩)
      (fun _ R s => s.heap.get? l = some { cls := .type "tuple", dict := dd, data := .seq items n, slots := sl } ∧ s.heap.get? b = some { cls := .type "tuple", dict := dd2, data := .seq items2 n2, slots := sl2 } ∧
        R (.ok (.ret (.bool (lexLt ms ns)))) s) :=
  .of_wp fun prog w A R s h => by
    obtain ⟨hp, g, d, tk, os⟩ := s; obtain ⟨hl, hb, h⟩ := h
    have f2 := AutoSeq1.sub_tuple_tuple
    have z1 : items.size = ns.length := by rw [← hi.length]; simp
    have z2 : items2.size = ms.length := by rw [← hj.length]; simp
    wp_walk using wpAny_loadPart' hl, wpAny_loadPart' hb, wpAny_forIn_list _ (fun rest b s' => b.1 = none ∧ s' = ⟨hp, g, d, tk, os⟩ ∧ ∃ (vs ws : List Value) (ns' ms' : List Int), rest = vs.zip ws ∧
      IntsAre vs ns' ∧ IntsAre ws ms' ∧ ns'.length + items2.size = ms'.length + items.size ∧ R (.ok (.ret (.bool (lexLt ms' ns')))) ⟨hp, g, d, tk, os⟩) _
    case turn =>
      rintro ⟨y, x⟩ rest b s' ⟨hb', rfl, vs, ws, ns', ms', hz, hvi, hwi, hlen, hR⟩
      cases hvi with
      | nil => rw [List.zip_nil_left] at hz; cases hz
      | cons a t hvi' =>
        cases hwi with
        | nil => rw [List.zip_nil_right] at hz; cases hz
        | cons c u hwi' =>
          rw [List.zip_cons_cons] at hz
          injection hz with hyx hrest
          injection hyx with hy hx
          subst hy hx
          rw [lexLt_cons] at hR
          simp only [List.length_cons] at hlen
          obtain ⟨e, he, hiff⟩ := eqAt_int A.in1 ⟨hp, g, d, tk, os⟩ a t c u
          refine wpAny_bind (he prog w _ _ ?_)
          cases e with
          | true =>
            rw [if_pos (hiff.mp rfl).symm] at hR
            wp_walk
            exact ⟨rfl, rfl, _, _, _, _, hrest, hvi', hwi', by omega, hR⟩
          | false =>
            rw [if_neg (fun q => absurd (hiff.mpr q.symm) Bool.false_ne_true)] at hR
            have hri := rcGt_int A.in1 ⟨hp, g, d, tk, os⟩ a t c u prog w
            wp_walk using hri
            exact ⟨_, rfl, by simpa using hR⟩
    case fin =>
      rintro ⟨b1, b2⟩ s' ⟨hb', rfl, vs, ws, ns', ms', hz, hvi, hwi, hlen, hR⟩
      simp only at hb'
      subst hb'
      have hv : lexLt ms' ns' = decide (items.size > items2.size) := by
        cases hvi with
        | nil =>
          cases hwi with
          | nil =>
            simp only [List.length_nil] at hlen
            rw [lexLt_nil_nil]
            exact (decide_eq_false (by omega)).symm
          | cons c u hw =>
            simp only [List.length_nil, List.length_cons] at hlen
            rw [lexLt_cons_nil]
            exact (decide_eq_false (by omega)).symm
        | cons a t hv =>
          cases hwi with
          | nil =>
            simp only [List.length_nil, List.length_cons] at hlen
            rw [lexLt_nil_cons]
            exact (decide_eq_true (by omega)).symm
          | cons c u hw =>
            rw [List.zip_cons_cons] at hz
            cases hz
      rw [hv] at hR
      wp_walk
      exact ⟨_, rfl, by simpa [Builtin.Tuple.tupleCompareSizes] using hR⟩
    case h =>
      exact ⟨rfl, rfl, items.toList, items2.toList, ns, ms, rfl, hi, hj, by omega, h⟩
end
section
variable {prog : Program} {w : World} {A : Around} {E : Value → Shared → Prop} {s : Shared}
theorem gt_tupInts {l b : Addr} {items items2 : Array Value} {ns ms : List Int} {Q : Value → Shared → Prop} (hl : IsTup s.heap l items) (hb : IsTup s.heap b items2) (hi : IntsAre items.toList ns) (hj : IntsAre items2.toList ms)
    (hu : A.units < cLine) (h : Q (.bool (lexLt ms ns)) s) : wpAny (model prog w) A (compareOp .Gt (.ref l) (.ref b)) Q E s := by
  obtain ⟨⟨cls, dd, data, sl⟩, ho, hc, n, hd⟩ := id hl
  obtain ⟨⟨cls2, dd2, data2, sl2⟩, ho2, hc2, n2, hd2⟩ := id hb
  simp only at hc hd hc2 hd2
  subst hc hd hc2 hd2
  exact richCompare_meets_room (op := .Gt) ⟨_, ho, rfl⟩ ⟨_, ho2, rfl⟩ PySem.F.slot_tuple_gt PySem.F.entry_tuple_gt (PySem.F.args_tuple_gt_2 _ _) (tuple_gt_ints l b items items2 n n2 dd dd2 sl sl2 ns ms hi hj)
    ⟨ho, ho2, show Value.bool (lexLt ms ns) ≠ Value.notImplemented ∧ Q (.bool (lexLt ms ns)) s from ⟨(fun x => nomatch x), h⟩⟩ hu
end
end HT
namespace L3
open PySem PySem.Spec PyProof.Rows L2
section
variable {X : Cx} {pos : Pos}
def tIfJ3 (c : TT3) (t : TS3) : TS3 := fun D ρ M => ∃ J : En → Mp → Prop, (c ρ M fun b M1 => if b = true then t { D with nx := fun ρ' M' => Hold (J ρ' M') } ρ M1 else Hold (J ρ M1)) ∧ ∀ ρ M, J ρ M → D.nx ρ M
theorem s_ifJ {c : Expr} {a : List Stmt} {tc : TT3} {t : TS3} (hc : PT3 X c tc) (ha : PSs3 X a t) : PS3 X (.If c a [] pos) (tIfJ3 tc t) := by
  constructor
  intro pins s σ H ρ M D I r ⟨J, q, hJ⟩
  refine thn ((s_if hc ha b_nil).run pins s σ H ρ M { D with nx := fun ρ' M' => Hold (J ρ' M') } I r q) fun f s' z => ?_
  cases f with
  | next => obtain ⟨σ', H', I', ρ', M', fr, r', p⟩ := z; exact ⟨σ', H', I', ρ', M', fr, r', hJ _ _ p.out⟩
  | brk => exact z
  | cont => exact z
  | ret u => exact z
def tForDH (t : TA3) (g : TG3) (tb : TS3) : TS3 := fun D ρ M => t ρ M fun xs M1 => xs.length ≤ sizeLine ∧ Hold (runFor (fun _ => True) g tb D xs ρ M1)
theorem s_forDH {tg : Expr} {body : List Stmt} {g : TG3} {tb : TS3} {es : List Expr} {t : TA3} {lpos : Pos} (hp : PassesOwn (model X.prog X.w) X.A X.env X.xe) (hc : X.calm = true) (hi : PA3 X es t) (hg : PG3 X tg g) (hb : PSs3 X body tb)
    (hs : ∀ x, foldedSetIterable (.List es lpos) X.env x = pure x := by intro _; rfl) : PS3 X (.For tg (.List es lpos) body [] pos) (tForDH t g tb) := upS (ps_for hp hc (pi_list (pe_lst hi.dn)) hg.dn hb.dn hs) fun σ H ρ M D r q => dnA_of r q fun vs H' ds M' f dv r' ⟨hl, q⟩ => by
  refine ⟨by rw [← dv.length]; exact hl, fun p hp => ⟨p, rfl, ⟨vs, SqL.of upd_same⟩, ?_⟩⟩
  have fr : Fr M' H' M' (upd H' p (.lst vs)) := Fr.new hp fun _ _ => rfl
  have r2 := r'.go fr (r'.mem.new hp)
  exact for_core itl_is (f.trans fr) r2 (fun M1 H1 f1 _ _ => ⟨vs, (f1 p _ (r'.mem.free hp) upd_same).1, Dats.mono ((Ext.new hp).trans (f1.ext r2.mem)) _ _ dv⟩) q.out
theorem lex_bef (p q : Pl) : HT.lexLt [p.x, p.y] [q.x, q.y] = decide (bef p q) := by
  rw [HT.lexLt_cons, HT.lexLt_cons, HT.lexLt_nil_nil]
  by_cases ex : p.x = q.x
  · rw [if_pos ex]
    by_cases ey : p.y = q.y
    · rw [if_pos ey]; exact (decide_eq_false (by unfold bef; omega)).symm
    · rw [if_neg ey, decide_eq_decide]; unfold bef; omega
  · rw [if_neg ex, decide_eq_decide]; unfold bef; omega
theorem at2_of {P : Program} {w : World} {K : PySem.W.Frag} {H : Hp} {h : Heap} {p : Pl} {x : V} {u : Value} (ok : HOk P w H h) (d : Dat K H p.d x) (r : RelV x u) : At2 h u p := by
  obtain ⟨a, xs, rfl, ha, hx⟩ := dat_tup.mp d
  obtain rfl : u = Value.ref a := r
  obtain ⟨its, rv, ⟨o, h1, h2, n, h3⟩, _⟩ := tup_at ok ha
  obtain ⟨v1, v2, rfl, d1, d2⟩ := dats2 hx
  obtain rfl := dat_int.mp d1
  obtain rfl := dat_int.mp d2
  obtain ⟨u1, u2, rfl, ⟨t1, rfl⟩, ⟨t2, rfl⟩⟩ := vals2 rv
  exact ⟨a, o, t1, t2, n, rfl, h1, h2, h3⟩
theorem At2.tup {h : Heap} {v : Value} {p : Pl} (a : At2 h v p) : ∃ (l : Addr) (its : Array Value), v = .ref l ∧ IsTup h l its ∧ IntsAre its.toList [p.x, p.y] := by
  obtain ⟨b, o, t, u, n, h1, h2, h3, h4⟩ := a
  exact ⟨b, _, h1, ⟨o, h2, h3, n, h4⟩, .cons _ _ (.cons _ _ .nil)⟩
def PlsAt (h : Heap) : List Value → List Pl → Prop := Paired (At2 h)
theorem plsAt_of {P : Program} {w : World} {K : PySem.W.Frag} {H : Hp} {h : Heap} (ok : HOk P w H h) : ∀ {ps : List Pl} {xs : List V} {us : List Value}, Dats K H (ps.map Pl.d) xs → Vals xs us → PlsAt h us ps
  | [], xs, us, d, r => by rw [dats_nil.mp d] at r; cases r; exact .nil
  | p :: ps, xs, us, d, r => by
    obtain ⟨v, vs, rfl, d1, d2⟩ := dats_cons.mp d
    cases r with
    | cons r rr => exact .cons (at2_of ok d1 r) (plsAt_of ok d2 rr)
theorem PlsAt.get {h : Heap} : ∀ {us : List Value} {ps : List Pl} {i : Nat} {u : Value}, PlsAt h us ps → us[i]? = some u → ∃ p, ps[i]? = some p ∧ At2 h u p
  | _, _, i, u, .nil, e => by simp at e
  | _, _, i, u, .cons a r, e => by
    cases i with
    | zero => simp at e; subst e; exact ⟨_, rfl, a⟩
    | succ i => exact PlsAt.get (i := i) r (by simpa using e)
theorem Vals.len {xs : List V} {us : List Value} (r : Vals xs us) : us.length = xs.length := (Vals.length r).symm
def bestOf (lt : Pl → Pl → Bool) (ps : List Pl) (i j : Nat) : Bool := lt (ps.getD i ⟨0, 0⟩) (ps.getD j ⟨0, 0⟩)
def rBest (lt : Pl → Pl → Bool) : List D → Mp → DK → Prop := fun ds M Q => ∃ ps : List Pl, ds = ps.map Pl.d ∧ 2 ≤ ps.length ∧ ps.length ≤ 4 ∧ Q (ps.getD (argBest (bestOf lt ps) (ps.length - 1)) ⟨0, 0⟩).d M
theorem argBest_le (bt : Nat → Nat → Bool) : ∀ n, argBest bt n ≤ n
  | 0 => Nat.le_refl 0
  | n + 1 => by
    unfold argBest
    split
    · exact Nat.le_refl _
    · exact Nat.le_succ_of_le (argBest_le bt n)
theorem min_ok2 (a b : Value) : argsOk "min" ⟨[a, b], []⟩ := by unfold argsOk; kernel_rfl
theorem min_ok3 (a b c : Value) : argsOk "min" ⟨[a, b, c], []⟩ := by unfold argsOk; kernel_rfl
theorem min_ok4 (a b c d : Value) : argsOk "min" ⟨[a, b, c, d], []⟩ := by unfold argsOk; kernel_rfl
theorem min_ok : ∀ (vs : List Value), 2 ≤ vs.length → vs.length ≤ 4 → argsOk "min" ⟨vs, []⟩ := by
  intro vs h2 h4
  cases vs with
  | nil => exact absurd h2 (by decide)
  | cons a vs =>
    cases vs with
    | nil => exact absurd h2 (by simp)
    | cons b vs =>
      cases vs with
      | nil => exact min_ok2 a b
      | cons c vs =>
        cases vs with
        | nil => exact min_ok3 a b c
        | cons d vs =>
          cases vs with
          | nil => exact min_ok4 a b c d
          | cons e vs => exact absurd h4 (by simp only [List.length_cons]; omega)
theorem max_ok2 (a b : Value) : argsOk "max" ⟨[a, b], []⟩ := by unfold argsOk; kernel_rfl
theorem max_ok3 (a b c : Value) : argsOk "max" ⟨[a, b, c], []⟩ := by unfold argsOk; kernel_rfl
theorem max_ok4 (a b c d : Value) : argsOk "max" ⟨[a, b, c, d], []⟩ := by unfold argsOk; kernel_rfl
theorem max_ok : ∀ (vs : List Value), 2 ≤ vs.length → vs.length ≤ 4 → argsOk "max" ⟨vs, []⟩ := by
  intro vs h2 h4
  cases vs with
  | nil => exact absurd h2 (by decide)
  | cons a vs =>
    cases vs with
    | nil => exact absurd h2 (by simp)
    | cons b vs =>
      cases vs with
      | nil => exact max_ok2 a b
      | cons c vs =>
        cases vs with
        | nil => exact max_ok3 a b c
        | cons d vs =>
          cases vs with
          | nil => exact max_ok4 a b c d
          | cons e vs => exact absurd h4 (by simp only [List.length_cons]; omega)
theorem c_minP (hu : X.A.units + 64 < cLine) (hc : X.calm = true) : Call3 X (.builtin "min") (rBest fun p q => decide (bef p q)) := by
  constructor
  intro pins s σ H M xs ds us Q I rm rs dx ⟨ps, e, h2, h4, q⟩
  subst e
  have hl : us.length = ps.length := by rw [Vals.len rs, ← dx.length, List.length_map]
  have hp := plsAt_of I.hok dx rs
  refine min_many (min_ok us (by omega) (by omega)) (by omega) (by omega) (I.ok.hd hc) (bt := bestOf (fun p q => decide (bef p q)) ps) (fun i j vi vj t Q E g e1 e2 q => ?_) fun v h' tk e g => ?_
  · obtain ⟨p1, f1, a1⟩ := hp.get e1
    obtain ⟨p2, f2, a2⟩ := hp.get e2
    obtain ⟨l1, i1, rfl, t1, n1⟩ := (a1.grow g).tup
    obtain ⟨l2, i2, rfl, t2, n2⟩ := (a2.grow g).tup
    have eb : bestOf (fun p q => decide (bef p q)) ps i j = decide (bef p1 p2) := by unfold bestOf; rw [List.getD_eq_getElem?_getD, List.getD_eq_getElem?_getD, f1, f2]; rfl
    rw [eb, ← lex_bef] at q
    exact (HT.lt_tupInts t1 t2 n1 n2 (by show X.A.units + 1 < cLine; omega) q : wpAny (model X.prog X.w) X.A.in1 (compareOp .Lt (.ref l1) (.ref l2)) Q E t)
  · rw [hl] at e
    obtain ⟨x, ex, rx⟩ : ∃ x, xs[argBest (bestOf (fun p q => decide (bef p q)) ps) (ps.length - 1)]? = some x ∧ RelV x v := by
      have lt : argBest (bestOf (fun p q => decide (bef p q)) ps) (ps.length - 1) < xs.length := by
        have := argBest_le (bestOf (fun p q => decide (bef p q)) ps) (ps.length - 1)
        rw [← dx.length, List.length_map]; omega
      obtain ⟨u, eu, ru⟩ := Vals.get rs (List.getElem?_eq_getElem lt)
      rw [e] at eu
      cases eu
      exact ⟨_, List.getElem?_eq_getElem lt, ru⟩
    obtain ⟨d, ed, dd⟩ := dx.back ex
    rw [List.getElem?_map] at ed
    have eq : d = (ps.getD (argBest (bestOf (fun p q => decide (bef p q)) ps) (ps.length - 1)) ⟨0, 0⟩).d := by
      rw [List.getD_eq_getElem?_getD]
      cases z : ps[argBest (bestOf (fun p q => decide (bef p q)) ps) (ps.length - 1)]? with
      | none => rw [z] at ed; cases ed
      | some p => rw [z] at ed; cases ed; rfl
    subst eq
    exact ⟨x, H, I.kept g, rx, post_self rm dd q⟩
theorem c_maxP (hu : X.A.units + 64 < cLine) (hc : X.calm = true) : Call3 X (.builtin "max") (rBest fun p q => decide (bef q p)) := by
  constructor
  intro pins s σ H M xs ds us Q I rm rs dx ⟨ps, e, h2, h4, q⟩
  subst e
  have hl : us.length = ps.length := by rw [Vals.len rs, ← dx.length, List.length_map]
  have hp := plsAt_of I.hok dx rs
  refine max_many (max_ok us (by omega) (by omega)) (by omega) (by omega) (I.ok.hd hc) (bt := bestOf (fun p q => decide (bef q p)) ps) (fun i j vi vj t Q E g e1 e2 q => ?_) fun v h' tk e g => ?_
  · obtain ⟨p1, f1, a1⟩ := hp.get e1
    obtain ⟨p2, f2, a2⟩ := hp.get e2
    obtain ⟨l1, i1, rfl, t1, n1⟩ := (a1.grow g).tup
    obtain ⟨l2, i2, rfl, t2, n2⟩ := (a2.grow g).tup
    have eb : bestOf (fun p q => decide (bef q p)) ps i j = decide (bef p2 p1) := by unfold bestOf; rw [List.getD_eq_getElem?_getD, List.getD_eq_getElem?_getD, f1, f2]; rfl
    rw [eb, ← lex_bef] at q
    exact (HT.gt_tupInts t1 t2 n1 n2 (by show X.A.units + 1 < cLine; omega) q : wpAny (model X.prog X.w) X.A.in1 (compareOp .Gt (.ref l1) (.ref l2)) Q E t)
  · rw [hl] at e
    obtain ⟨x, ex, rx⟩ : ∃ x, xs[argBest (bestOf (fun p q => decide (bef q p)) ps) (ps.length - 1)]? = some x ∧ RelV x v := by
      have lt : argBest (bestOf (fun p q => decide (bef q p)) ps) (ps.length - 1) < xs.length := by
        have := argBest_le (bestOf (fun p q => decide (bef q p)) ps) (ps.length - 1)
        rw [← dx.length, List.length_map]; omega
      obtain ⟨u, eu, ru⟩ := Vals.get rs (List.getElem?_eq_getElem lt)
      rw [e] at eu
      cases eu
      exact ⟨_, List.getElem?_eq_getElem lt, ru⟩
    obtain ⟨d, ed, dd⟩ := dx.back ex
    rw [List.getElem?_map] at ed
    have eq : d = (ps.getD (argBest (bestOf (fun p q => decide (bef q p)) ps) (ps.length - 1)) ⟨0, 0⟩).d := by
      rw [List.getD_eq_getElem?_getD]
      cases z : ps[argBest (bestOf (fun p q => decide (bef q p)) ps) (ps.length - 1)]? with
      | none => rw [z] at ed; cases ed
      | some p => rw [z] at ed; cases ed; rfl
    subst eq
    exact ⟨x, H, I.kept g, rx, post_self rm dd q⟩
def rLo : List D → Mp → DK → Prop := fun ds M Q => ∃ p q : Pl, ds = [p.d, q.d] ∧ Q (lo p q).d M
def rHi : List D → Mp → DK → Prop := fun ds M Q => ∃ p q : Pl, ds = [p.d, q.d] ∧ Q (hi p q).d M
theorem Call3.imp {f : Value} {r r' : List D → Mp → DK → Prop} (h : Call3 X f r) (g : ∀ ds M Q, r' ds M Q → r ds M Q) : Call3 X f r' :=
  ⟨fun pins s σ H M xs ds us Q I rm rs dx q => h.run pins s σ H M xs ds us Q I rm rs dx (g _ _ _ q)⟩
theorem c_lo (hu : X.A.units + 64 < cLine) (hc : X.calm = true) : Call3 X (.builtin "min") rLo := (c_minP hu hc).imp fun ds M Q ⟨p, q, e, h⟩ => by
  refine ⟨[p, q], e, Nat.le_refl 2, Nat.le_add_right 2 2, ?_⟩
  have e : [p, q].getD (argBest (bestOf (fun p q => decide (bef p q)) [p, q]) ([p, q].length - 1)) ⟨0, 0⟩ = lo p q := by
    have a : argBest (bestOf (fun p q => decide (bef p q)) [p, q]) ([p, q].length - 1) = if decide (bef q p) = true then 1 else 0 := rfl
    rw [a]
    unfold lo
    by_cases c : bef q p
    · rw [if_pos c, if_pos (decide_eq_true c)]; rfl
    · rw [if_neg c, if_neg (fun z => c (of_decide_eq_true z))]; rfl
  rw [e]; exact h
theorem c_hi (hu : X.A.units + 64 < cLine) (hc : X.calm = true) : Call3 X (.builtin "max") rHi := (c_maxP hu hc).imp fun ds M Q ⟨p, q, e, h⟩ => by
  refine ⟨[p, q], e, Nat.le_refl 2, Nat.le_add_right 2 2, ?_⟩
  have e : [p, q].getD (argBest (bestOf (fun p q => decide (bef q p)) [p, q]) ([p, q].length - 1)) ⟨0, 0⟩ = hi p q := by
    have a : argBest (bestOf (fun p q => decide (bef q p)) [p, q]) ([p, q].length - 1) = if decide (bef p q) = true then 1 else 0 := rfl
    rw [a]
    unfold hi
    by_cases c : bef p q
    · rw [if_pos c, if_pos (decide_eq_true c)]; rfl
    · rw [if_neg c, if_neg (fun z => c (of_decide_eq_true z))]; rfl
  rw [e]; exact h
noncomputable def pkey (h : Heap) (v : Value) : Pl := Option.getD (α := Pl) ((kPl h).keyOf v) ⟨0, 0⟩
theorem pkey_at {h : Heap} {v : Value} {p : Pl} (a : At2 h v p) : pkey h v = p := by
  unfold pkey
  have e : (kPl h).keyOf v = some p := kPl_key a
  exact congrArg (fun o => Option.getD (α := Pl) o ⟨0, 0⟩) e
theorem PlsAt.keys {h : Heap} : ∀ {us : List Value} {ps : List Pl}, PlsAt h us ps → us.map (pkey h) = ps
  | _, _, .nil => rfl
  | _, _, .cons a r => by rw [List.map_cons, pkey_at a, PlsAt.keys r]
theorem PlsAt.mem {h : Heap} : ∀ {us : List Value} {ps : List Pl} {v : Value}, PlsAt h us ps → v ∈ us → ∃ p, At2 h v p
  | _, _, v, .nil, m => by cases m
  | _, _, v, .cons a r, m => by
    rcases List.mem_cons.mp m with rfl | m
    · exact ⟨_, a⟩
    · exact PlsAt.mem r m
theorem zip_self_mem {α : Type} : ∀ {vs : List α} {p : α × α}, p ∈ vs.zip vs → p.1 = p.2 ∧ p.1 ∈ vs
  | [], p, m => by simp at m
  | v :: vs, p, m => by
    rw [List.zip_cons_cons] at m
    rcases List.mem_cons.mp m with rfl | m
    · exact ⟨rfl, List.mem_cons_self ..⟩
    · exact ⟨(zip_self_mem m).1, List.mem_cons_of_mem _ (zip_self_mem m).2⟩
theorem sorted_places {P : Program} {w : World} {A : Around} {E : Value → Shared → Prop} {s : Shared} {l : Addr} {vs : List Value} {ps : List Pl} {Q : Value → Shared → Prop} (hl : s.heap.IsList l vs.toArray) (hv : PlsAt s.heap vs ps) (h64 : vs.length < 64)
    (h : ∀ (out : List Value) (qs : List Pl), (∀ v ∈ out, v ∈ vs) → qs = out.map (pkey s.heap) → qs.Perm ps → qs.Pairwise (fun p q => ¬ bef q p) → Q (.ref (s.heap.objs.size + 1)) { s with heap := sortedAll s.heap vs out.toArray }) :
    wpAny (model P w) A (call (.builtin "sorted") [.ref l]) Q E s := by
  have hk : KeysOf (kPl s.heap) (pairsOf vs) := fun p hp => by
    rw [pairsOf_toList] at hp
    obtain ⟨q, a⟩ := hv.mem (zip_self_mem hp).2
    exact ⟨q, kPl_key a⟩
  refine sorted_by (κ := kPl s.heap) (kd := tuples' true) hl hk (fun t E Q g h2 q => kind_pl (by omega) (fun v m => ?_) q) (fun t g => ask_pl g true) h64 fun y hp hs => ?_
  · obtain ⟨p, a⟩ := hv.mem m
    exact ⟨p, a.grow g⟩
  · have pl : y.toList.Perm (vs.zip vs) := by rw [← pairsOf_toList]; exact Array.perm_iff_toList_perm.mp hp
    have same : ∀ p ∈ y.toList, p.1 = p.2 ∧ p.1 ∈ vs := fun p m => zip_self_mem (pl.mem_iff.mp m)
    have eo : y.map (·.2) = (y.toList.map (·.2)).toArray := by rw [← Array.toList_map, Array.toArray_toList]
    rw [eo]
    refine h (y.toList.map (·.2)) _ (fun v m => ?_) rfl ?_ ?_
    · obtain ⟨p, m2, rfl⟩ := List.mem_map.mp m
      rw [← (same p m2).1]; exact (same p m2).2
    · have q := (pl.map (fun p => p.2)).map (pkey s.heap)
      have e : (vs.zip vs).map (fun p => p.2) = vs := List.map_snd_zip (Nat.le_refl _)
      rw [e, hv.keys] at q
      exact q
    · rw [List.pairwise_iff_getElem]
      intro i j hi hj hij
      have li : i < y.size := by simpa using hi
      have lj : j < y.size := by simpa using hj
      have q := hs i j (Nat.le_of_lt hij) (by rw [← hp.size_eq]; exact lj)
      have key : ∀ k (hk : k < y.size), KK (kPl s.heap) y k = pkey s.heap y[k].2 := fun k hk => by
        unfold KK
        rw [getElem?_pos y k hk]
        show Option.getD (α := Pl) ((kPl s.heap).keyOf y[k].1) ⟨0, 0⟩ = _
        rw [(same y[k] (by simp)).1]
        rfl
      have q : (kPl s.heap).blt (KK (kPl s.heap) y j) (KK (kPl s.heap) y i) = false := q
      rw [key i li, key j lj] at q
      have q : decide (bef (pkey s.heap y[j].2) (pkey s.heap y[i].2)) = false := q
      simpa using of_decide_eq_false q
def rSorted : List D → Mp → DK → Prop := fun ds M Q => ∃ (l : Addr) (ps : List Pl), ds = [.ref l] ∧ M l = some (.lst (ps.map Pl.d)) ∧ ps.length < 64 ∧ ∀ (p : Addr) (qs : List Pl), M p = none → qs.Perm ps → qs.Pairwise (fun p q => ¬ bef q p) → Q (.ref p) (updM M p (.lst (qs.map Pl.d)))
theorem dats_pick {K : PySem.W.Frag} {H : Hp} {h : Heap} {P : Program} {w : World} (ok : HOk P w H h) {ps : List Pl} {zs : List V} {vs : List Value} (d : Dats K H (ps.map Pl.d) zs) (r : Vals zs vs) : ∀ (out : List Value), (∀ v ∈ out, v ∈ vs) →
    ∃ ws, Vals ws out ∧ Dats K H ((out.map (pkey h)).map Pl.d) ws
  | [], _ => ⟨[], .nil, dats_nil.mpr rfl⟩
  | v :: out, m => by
    obtain ⟨ws, h1, h2⟩ := dats_pick ok d r out fun u hu => m u (List.mem_cons_of_mem _ hu)
    have one : ∀ {ps : List Pl} {zs : List V} {vs : List Value}, Dats K H (ps.map Pl.d) zs → Vals zs vs → v ∈ vs → ∃ (p : Pl) (x : V), RelV x v ∧ Dat K H p.d x := by
      intro ps
      induction ps with
      | nil => intro zs vs d r m; rw [dats_nil.mp d] at r; cases r; cases m
      | cons p ps ih =>
        intro zs vs d r m
        obtain ⟨x, xs, rfl, d1, d2⟩ := dats_cons.mp d
        cases r with
        | cons r1 r2 =>
          rcases List.mem_cons.mp m with rfl | m
          · exact ⟨p, x, r1, d1⟩
          · exact ih d2 r2 m
    obtain ⟨p, x, rx, dx⟩ := one d r (m v (List.mem_cons_self ..))
    refine ⟨x :: ws, .cons rx h1, ?_⟩
    rw [List.map_cons, List.map_cons, pkey_at (at2_of ok dx rx)]
    exact dats_cons.mpr ⟨x, ws, rfl, dx, h2⟩
theorem c_sorted : Call3 X (.builtin "sorted") rSorted := by
  constructor
  intro pins s σ H M xs ds us Q I rm rs dx ⟨l, ps, e, hM, h64, q⟩
  subst e
  obtain ⟨v, rfl, hv⟩ := dats1 dx
  obtain rfl := dat_ref.mp hv
  obtain ⟨u, rfl, r1⟩ := vals1 rs
  obtain rfl : u = Value.ref l := r1
  obtain ⟨zs, hH, hz⟩ := rm.lst hM
  obtain ⟨its, rv, pl, hsz⟩ := I.list (SqL.of (K := X.K) hH)
  have hl : its.length = ps.length := by rw [Vals.len rv, ← hz.length, List.length_map]
  refine sorted_places pl.isList (plsAt_of I.hok hz rv) (by omega) fun out qs hm eq hp hs => ?_
  obtain ⟨ws, w1, w2⟩ := dats_pick I.hok hz rv out hm
  rw [← eq] at w2
  obtain ⟨n, hn⟩ := sortedAll_at s.heap its out.toArray
  have fr : H (s.heap.objs.size + 1) = none := I.hok.fresh (Nat.le_succ _)
  have zw : ws.length ≤ sizeLine := by
    rw [← w2.length, List.length_map, hp.length_eq, sizeLine_eq]; omega
  refine ⟨.ref (s.heap.objs.size + 1), upd H (s.heap.objs.size + 1) (.lst ws), I.laid (t' := s.toks) (fun b o e => sortedAll_old e) (Nat.le_succ _) ⟨zw, out, n, w1, hn⟩, rfl, .ref _, updM M _ (.lst (qs.map Pl.d)), Fr.new fr fun _ hb => updM_ne hb, dat_ref.mpr rfl, rm.newL fr w2, q _ _ (rm.free fr) hp hs⟩
end
end L3
local macro_rules | `(tactic| walk_at "sm") => `(tactic| first | assumption | exact L3.Sm.sign _ | exact L3.Sm.zero | exact L3.Sm.one | exact L3.Sm.two | ((with_reducible apply L3.Sm.mul) <;> walk_at "sm") | ((with_reducible apply L3.Sm.sub) <;> walk_at "sm") | ((with_reducible apply L3.Sm.add) <;> walk_at "sm") | ((with_reducible apply L3.Sm.neg) <;> walk_at "sm") | ((with_reducible apply L3.Sm.abs) <;> walk_at "sm") | ((with_reducible apply L3.Sm.emod); (first | omega | decide +kernel); walk_at "sm") | exact L3.Sm.lit _)
local macro_rules | `(tactic| walk_at "mulok") => `(tactic| (apply L3.MulOk.of; walk_at "sm"; walk_at "sm"; first | omega | decide +kernel))
local macro_rules | `(tactic| walk_at "rd1") => `(tactic| first | refine ⟨_, rfl, ?_⟩ | refine ⟨_, _, rfl, rfl, ?_⟩ | refine ⟨_, _, _, Or.inl rfl, rfl, rfl, ?_⟩ | (refine ⟨?side, ?_⟩; (case side => first | walk_at "mulok" | (simp only [List.length_cons, List.length_nil]; decide) | (show (0 : Int) < _; first | omega | (dsimp only; omega) | decide +kernel) | (show (0 : Int) ≤ _; first | omega | (dsimp only; omega)) | exact ⟨by decide +kernel, by decide +kernel, by decide +kernel⟩ | exact ⟨by decide +kernel, _, L3.Sm.lit _, by decide +kernel⟩ | (left; walk_at "mulok") | exact Or.inr (Or.inr ⟨by decide, by decide⟩) | decide)) | refine ⟨rfl, ?_⟩ | refine ⟨trivial, ?_⟩ | refine ⟨_, Or.inl rfl, rfl, ?_⟩ | refine ⟨_, _, rfl, Or.inl rfl, ?_⟩ | refine ⟨_, _, _, _, rfl, L3.Ty3.int _, L3.kit_same, ?_⟩ | refine ⟨_, _, _, _, rfl, L3.Ty3.tup _, L3.kit_same, ?_⟩ | refine ⟨_, _, _, _, rfl, L3.Ty3.bl _, L3.kit_same, ?_⟩ | refine ⟨_, _, rfl, ?_⟩ | refine ⟨_, _, _, rfl, ?_⟩ | refine ⟨_, _, _, _, rfl, ?_⟩)
local macro_rules | `(tactic| walk_at "rd") => `(tactic| repeat walk_at "rd1")
local macro_rules | `(tactic| walk_at "smle") => `(tactic| (apply L3.Sm.le; walk_at "sm"; first | omega | decide +kernel))
local macro_rules | `(tactic| walk_at "om") => `(tactic| first | omega | (dsimp only; omega))
namespace L3
open PySem L2
theorem tw_sm {a b c : Pl} (ha : a.Ok 140) (hb : b.Ok 140) (hc : c.Ok 140) : Sm 290 (tw a b c) := by
  obtain ⟨a1, a2⟩ := ha
  obtain ⟨b1, b2⟩ := hb
  obtain ⟨c1, c2⟩ := hc
  unfold tw
  walk_at "smle"
theorem apt_sm {p q : Pl} (hp : p.Ok 140) (hq : q.Ok 140) : Sm 290 (apt p q) := by
  obtain ⟨p1, p2⟩ := hp
  obtain ⟨q1, q2⟩ := hq
  unfold apt
  walk_at "smle"
theorem inD3 (a b c d : Pl) : inD d.d [a.d, b.d, c.d] = decide (d = a ∨ d = b ∨ d = c) := by
  unfold inD
  rw [List.any_cons, List.any_cons, List.any_cons, List.any_nil, eqD_Pl, eqD_Pl, eqD_Pl, Bool.or_false, Bool.eq_iff_iff]
  simp only [Bool.or_eq_true, decide_eq_true_eq]
  grind
theorem three_of {α : Type} {qs : List α} (h : qs.length = 3) : ∃ u v w, qs = [u, v, w] := by
  match qs, h with
  | [u, v, w], _ => exact ⟨u, v, w, rfl⟩
theorem perm2 {α : Type} {v w b c : α} (h : [v, w].Perm [b, c]) : (v = b ∧ w = c) ∨ (v = c ∧ w = b) := by
  have m : v ∈ [b, c] := h.mem_iff.mp (by simp)
  rcases List.mem_cons.mp m with rfl | m
  · exact .inl ⟨rfl, by have := (List.perm_cons v).mp h; simpa using this⟩
  · have := List.mem_singleton.mp m
    subst this
    have h2 := (List.perm_cons v).mp (h.trans (List.Perm.swap v b []))
    exact .inr ⟨rfl, by simpa using h2⟩
theorem perm3 {α : Type} {u v w a b c : α} (h : [u, v, w].Perm [a, b, c]) : (u = a ∧ v = b ∧ w = c) ∨ (u = a ∧ v = c ∧ w = b) ∨ (u = b ∧ v = a ∧ w = c) ∨ (u = b ∧ v = c ∧ w = a) ∨ (u = c ∧ v = a ∧ w = b) ∨ (u = c ∧ v = b ∧ w = a) := by
  have m : u ∈ [a, b, c] := h.mem_iff.mp (by simp)
  rcases List.mem_cons.mp m with rfl | m
  · rcases perm2 ((List.perm_cons u).mp h) with ⟨e1, e2⟩ | ⟨e1, e2⟩
    · exact .inl ⟨rfl, e1, e2⟩
    · exact .inr (.inl ⟨rfl, e1, e2⟩)
  · rcases List.mem_cons.mp m with rfl | m
    · have h2 := (List.perm_cons u).mp (h.trans (List.Perm.swap u a [c]))
      rcases perm2 h2 with ⟨e1, e2⟩ | ⟨e1, e2⟩
      · exact .inr (.inr (.inl ⟨rfl, e1, e2⟩))
      · exact .inr (.inr (.inr (.inl ⟨rfl, e1, e2⟩)))
    · have := List.mem_singleton.mp m
      subst this
      have h2 := (List.perm_cons u).mp (h.trans ((List.Perm.cons a (List.Perm.swap u b [])).trans (List.Perm.swap u a [b])))
      rcases perm2 h2 with ⟨e1, e2⟩ | ⟨e1, e2⟩
      · exact .inr (.inr (.inr (.inr (.inl ⟨rfl, e1, e2⟩))))
      · exact .inr (.inr (.inr (.inr (.inr ⟨rfl, e1, e2⟩))))
theorem ok_perm3 {n : Nat} {u v w a b c : Pl} (h : [u, v, w].Perm [a, b, c]) (ha : a.Ok n) (hb : b.Ok n) (hc : c.Ok n) : u.Ok n ∧ v.Ok n ∧ w.Ok n := by
  rcases perm3 h with ⟨rfl, rfl, rfl⟩ | ⟨rfl, rfl, rfl⟩ | ⟨rfl, rfl, rfl⟩ | ⟨rfl, rfl, rfl⟩ | ⟨rfl, rfl, rfl⟩ | ⟨rfl, rfl, rfl⟩ <;> exact ⟨by assumption, by assumption, by assumption⟩
theorem Spo_perm {u v w a b c d : Pl} (h : [u, v, w].Perm [a, b, c]) : Spo u v w d ↔ Spo a b c d := by
  rcases perm3 h with ⟨rfl, rfl, rfl⟩ | ⟨rfl, rfl, rfl⟩ | ⟨rfl, rfl, rfl⟩ | ⟨rfl, rfl, rfl⟩ | ⟨rfl, rfl, rfl⟩ | ⟨rfl, rfl, rfl⟩
  · exact Iff.rfl
  · exact Spo_mid _ _ _ _
  · exact Spo_swap _ _ _ _
  · exact Spo_rot _ _ _ _
  · exact (Spo_rot _ _ _ _).trans (Spo_rot _ _ _ _)
  · exact (Spo_swap _ _ _ _).trans (Spo_rot _ _ _ _)
theorem rg_perm {u v w a b c d : Pl} (h : [u, v, w].Perm [a, b, c]) : rg u v w d = rg a b c d := by
  have mid : ∀ a b c d, rg a c b d = rg a b c d := fun a b c d => by rw [← rg_rot a c b d, rg_swap b c a d, rg_rot]
  rcases perm3 h with ⟨rfl, rfl, rfl⟩ | ⟨rfl, rfl, rfl⟩ | ⟨rfl, rfl, rfl⟩ | ⟨rfl, rfl, rfl⟩ | ⟨rfl, rfl, rfl⟩ | ⟨rfl, rfl, rfl⟩
  · rfl
  · exact mid _ _ _ _
  · exact rg_swap _ _ _ _
  · exact rg_rot _ _ _ _
  · exact (rg_rot _ _ _ _).trans (rg_rot _ _ _ _)
  · exact (rg_swap _ _ _ _).trans (rg_rot _ _ _ _)
theorem spo_least {a b c d u v w : Pl} (hn : tw a b c ≠ 0) (h0 : rg a b c d = 0) (hd : ¬ (d = a ∨ d = b ∨ d = c)) (hp : [u, v, w].Perm [a, b, c]) (s1 : ¬ bef v u) (s2 : ¬ bef w u) :
    decide (Spo a b c d) = if bef d u then true else decide ((tw v w d).sign ≠ (tw v w u).sign) := by
  have nab : a ≠ b := fun e => by subst e; rw [tw_same1] at hn; exact hn rfl
  have nac : a ≠ c := fun e => by subst e; rw [tw_same3] at hn; exact hn rfl
  have nbc : b ≠ c := fun e => by subst e; rw [tw_same2] at hn; exact hn rfl
  have ho : (u ≠ v ∧ u ≠ w) ∧ (d ≠ u ∧ d ≠ v ∧ d ≠ w) := by
    rcases perm3 hp with ⟨rfl, rfl, rfl⟩ | ⟨rfl, rfl, rfl⟩ | ⟨rfl, rfl, rfl⟩ | ⟨rfl, rfl, rfl⟩ | ⟨rfl, rfl, rfl⟩ | ⟨rfl, rfl, rfl⟩ <;> grind
  obtain ⟨⟨n1, n2⟩, e1, e2, e3⟩ := ho
  have b1 : bef u v := by rcases bef_or n1 with z | z; exact z; exact absurd z s1
  have b2 : bef u w := by rcases bef_or n2 with z | z; exact z; exact absurd z s2
  have e : decide (Spo a b c d) = decide (Spo u v w d) := by rw [decide_eq_decide]; exact (Spo_perm hp).symm
  rw [e]
  have h1 : rg u v w d = 0 := by rw [rg_perm hp]; exact h0
  by_cases k : bef d u
  · rw [if_pos k]
    exact decide_eq_true (.inr ⟨h1, e1, e2, e3, .inl ⟨k, bef_trans k b1, bef_trans k b2⟩⟩)
  · rw [if_neg k, decide_eq_decide]
    have k2 : bef u d := by rcases bef_or e1 with z | z; exact absurd z k; exact z
    unfold Spo
    rw [h1]
    constructor
    · rintro (z | ⟨_, _, _, _, z | z | z | z⟩)
      · cases z
      · exact absurd z.1 k
      · exact z.2.2.2
      · exact absurd z.1 s1
      · exact absurd z.1 s2
    · intro z
      exact .inr ⟨rfl, e1, e2, e3, .inr (.inl ⟨b1, b2, k2, z⟩)⟩
theorem spo_sorted {a b c d u v w : Pl} (hn : tw a b c ≠ 0) (h0 : rg a b c d = 0) (hd : ¬ (d = a ∨ d = b ∨ d = c)) (hp : [u, v, w].Perm [a, b, c]) (hs : [u, v, w].Pairwise (fun p q => ¬ bef q p)) :
    decide (Spo a b c d) = if bef d u then true else decide ((tw v w d).sign ≠ (tw v w u).sign) :=
  spo_least hn h0 hd hp ((List.pairwise_cons.mp hs).1 v (by simp)) ((List.pairwise_cons.mp hs).1 w (by simp))
instance (p q r s : Pl) : Decidable (Unl p q r s) := inferInstanceAs (Decidable (_ ∨ _))
theorem ne_dec (i j : Int) : (!eqD (.int i) (.int j)) = decide (i ≠ j) := by
  rw [eqD_int, Bool.eq_iff_iff]
  simp
theorem plain_pls (qs : List Pl) : (qs.map Pl.d).all (plain 9) = true := by
  rw [List.all_map, List.all_eq_true]
  intro q _
  rfl
end L3
namespace L3
open PySem PySem.Spec PyProof.Rows L2
def closeL (cells : List (Str × Addr)) (names : List (Str × NameKind)) (cs : List (Str × Addr)) : List (Str × Addr) :=
  names.foldl (fun cs y => if (y.2 == NameKind.free) = true then (y.1, (cells.lookup y.1).getD 0) :: cs else cs) cs
theorem forIn_fold {α β : Type} {f : α → β → Sem (ForInStep β)} {g : β → α → β} : ∀ {l : List α} {b : β}, (∀ x ∈ l, ∀ b, f x b = pure (.yield (g b x))) → forIn l b f = (pure (l.foldl g b) : Sem β)
  | [], b, _ => rfl
  | x :: l, b, h => by
    rw [List.forIn_cons, h x (List.mem_cons_self ..), pure_bind]
    exact forIn_fold fun y hy => h y (List.mem_cons_of_mem _ hy)
theorem closure_is {sc : Scope} {env : Env} (h : ∀ y ∈ sc.names, y.2 = .free → ∃ c, env.cells.lookup y.1 = some c) : closureFor sc env = pure (closeL env.cells sc.names []) := by
  unfold closureFor closeL
  dsimp only
  rw [forIn_fold (g := fun cs y => if (y.2 == NameKind.free) = true then (y.1, (env.cells.lookup y.1).getD 0) :: cs else cs)]
  · rfl
  · rintro ⟨n, k⟩ hy b
    by_cases hk : k = .free
    · subst hk
      obtain ⟨c, hc⟩ := h _ hy rfl
      have hc : env.cells.lookup n = some c := hc
      simp [cellOf, hc]
    · have hb : (k == NameKind.free) = false := by simpa using hk
      simp [hb]
theorem closeL_from {cells : List (Str × Addr)} {x : Str} {c : Addr} : ∀ {names : List (Str × NameKind)} {cs : List (Str × Addr)}, (∀ y ∈ names, y.2 = .free → ∃ c, cells.lookup y.1 = some c) → (∀ x c, cs.lookup x = some c → cells.lookup x = some c) →
    (closeL cells names cs).lookup x = some c → cells.lookup x = some c
  | [], cs, _, h, e => h x c e
  | (n, k) :: r, cs, hf, h, e => by
    refine closeL_from (names := r) (cs := if (k == NameKind.free) = true then (n, (cells.lookup n).getD 0) :: cs else cs) (fun y hy => hf y (List.mem_cons_of_mem _ hy)) (fun x c q => ?_) e
    split at q
    · rename_i hk
      rw [List.lookup_cons] at q
      split at q
      · rename_i hx
        have hx := eq_of_beq hx
        subst hx
        obtain ⟨c', hc⟩ := hf (x, k) (List.mem_cons_self ..) (eq_of_beq hk)
        have hc : cells.lookup x = some c' := hc
        rw [hc] at q
        rw [hc]; exact q
      · exact h x c q
    · exact h x c q
theorem closeL_more {cells : List (Str × Addr)} {x : Str} : ∀ {names : List (Str × NameKind)} {cs : List (Str × Addr)}, ((cs.lookup x).isSome = true ∨ (x, NameKind.free) ∈ names) → ((closeL cells names cs).lookup x).isSome = true
  | [], cs, h => by
    rcases h with h | h
    · exact h
    · cases h
  | (n, k) :: r, cs, h => by
    refine closeL_more (names := r) (cs := if (k == NameKind.free) = true then (n, (cells.lookup n).getD 0) :: cs else cs) ?_
    rcases h with h | h
    · left
      split
      · rw [List.lookup_cons]
        split
        · rfl
        · exact h
      · exact h
    · rcases List.mem_cons.mp h with e | h
      · left
        cases e
        simp [List.lookup_cons]
      · exact .inr h
theorem mem_of_lookup {β : Type} {x : Str} {b : β} : ∀ {l : List (Str × β)}, l.lookup x = some b → (x, b) ∈ l
  | [], h => by cases h
  | (n, c) :: r, h => by
    rw [List.lookup_cons] at h
    split at h
    · rename_i hx
      cases h
      have := eq_of_beq hx
      subst this
      exact List.mem_cons_self ..
    · exact List.mem_cons_of_mem _ (mem_of_lookup h)
def compChk (outer : Scope) (N : List Str) (sc : Scope) (x : Str) (ys : List Str) (fs : List Nat) : Bool :=
  (sc.kind == .function) && (outer.kind == .function) && sc.names.all (fun y => !(y.2 == .cell) && (!(y.2 == .local) || sc.names.lookup y.1 == some .local) && (!(y.2 == .free) || outer.names.lookup y.1 == some .cell)) && (sc.names.lookup x == some .local) &&
    decide (ys.length = fs.length) && (ys.zip fs).all (fun p => N[p.2]? == some p.1 && sc.names.lookup p.1 == some .free) && decide (x :: ys).Nodup
structure CompOk (outer : Scope) (N : List Str) (sc : Scope) (x : Str) (ys : List Str) (fs : List Nat) : Prop where
  kind : sc.kind = .function
  okind : outer.kind = .function
  nocell : ∀ y ∈ sc.names, y.2 ≠ .cell
  names : ∀ y ∈ sc.names, y.2 = .local → sc.names.lookup y.1 = some .local
  fre : ∀ y ∈ sc.names, y.2 = .free → outer.names.lookup y.1 = some .cell
  loc : sc.names.lookup x = some .local
  len : ys.length = fs.length
  at' : ∀ (k : Nat) y, ys[k]? = some y → ∃ i, fs[k]? = some i ∧ N[i]? = some y ∧ sc.names.lookup y = some .free
  nd : (x :: ys).Nodup
theorem CompOk.of {outer : Scope} {N : List Str} {sc : Scope} {x : Str} {ys : List Str} {fs : List Nat} (h : compChk outer N sc x ys fs = true) : CompOk outer N sc x ys fs := by
  unfold compChk at h
  simp only [Bool.and_eq_true, List.all_eq_true, decide_eq_true_eq] at h
  obtain ⟨⟨⟨⟨⟨⟨h1, h1'⟩, h2⟩, h3⟩, h4⟩, h5⟩, h6⟩ := h
  refine ⟨eq_of_beq h1, eq_of_beq h1', fun y hy z => ?_, fun y hy z => ?_, fun y hy z => ?_, eq_of_beq h3, h4, fun k y e => ?_, h6⟩
  · have := (h2 y hy).1.1
    rw [z] at this
    simp at this
  · have := (h2 y hy).1.2
    rw [z] at this
    simpa using this
  · have := (h2 y hy).2
    rw [z] at this
    simpa using this
  · have hk : k < fs.length := by rw [← h4]; exact (List.getElem?_eq_some_iff.mp e).1
    have ez : (ys.zip fs)[k]? = some (y, fs[k]) := by
      rw [List.getElem?_zip_eq_some]
      exact ⟨e, List.getElem?_eq_getElem hk⟩
    obtain ⟨q1, q2⟩ := h5 _ (List.mem_of_getElem? ez)
    exact ⟨fs[k], List.getElem?_eq_getElem hk, eq_of_beq q1, eq_of_beq q2⟩
theorem relabel_free {env : Env} {y : Str} (hk : env.scope.kind = .function) (hc : env.scope.names.lookup y = some .cell) : ∀ {names : List (Str × NameKind)}, names.lookup y = some .free →
    (names.map fun (n, k) => if (k == NameKind.free && env.scope.kind == .function && env.kindOf n == some .cell) then (n, NameKind.cell) else (n, k)).lookup y = some .cell
  | [], h => by cases h
  | (n, k) :: r, h => by
    rw [List.lookup_cons] at h
    split at h
    · rename_i hx
      cases h
      have := eq_of_beq hx
      subst this
      have hc : env.kindOf y = some .cell := hc
      simp [hk, hc, List.lookup_cons]
    · rename_i hx
      have ih := relabel_free hk hc h
      simp only [List.map_cons]
      split
      · rw [List.lookup_cons, hx]; exact ih
      · rw [List.lookup_cons, hx]; exact ih
abbrev blk (X : Cx) (sc : Scope) (x : Str) (ys : List Str) (cl : List (Str × Addr)) (C : Addr) (s0 : Shared) (H0 : Hp) (ex : List Addr) : Cx :=
  { X with N := x :: ys, s₀ := s0, H₀ := H0, env := compEnvC sc cl C X.env, outer := X.stack, ex := ex, fn := fun _ => false, pn := [], xe := fun _ _ => False }
structure PL3 (X : Cx) (ifs : List Expr) (t : TT3) : Prop where
  run : ∀ (pins : List (Addr × Obj)) (s : Shared) (σ : St) (H : Hp) (ρ : En) (M : Mp) (Q : Bool → Mp → Prop), Inv X pins σ H s → Rep X.K H σ ρ M → t ρ M Q →
    wpAny (model X.prog X.w) X.A (forIn ifs true fun c r => if r = true then do { let ok ← isTrue c X.env (eval c X.env); pure (ForInStep.yield ok) } else pure (ForInStep.yield r)) (TP X pins σ (PostB X.K M H Q)) X.xe s
def tYes : TT3 := fun _ M Q => Q true M
theorem l_nil {X : Cx} : PL3 X [] tYes := ⟨fun pins s σ H ρ M Q I r q => wpAny_tests_nil ⟨H, I, M, .refl _ _, r.mem, q⟩⟩
theorem l_one {X : Cx} {c : Expr} {t : TT3} (h : PT3 X c t) : PL3 X [c] t := ⟨fun pins s σ H ρ M Q I r q => wpAny_tests_one (h.run pins s σ H ρ M Q I r q)⟩
def runLC (gd : Mp → Prop) (tt : TT3) (te : TE3) (fr : En) (Q : List D → Mp → Prop) : List D → List D → Mp → Prop
  | [], acc, M => gd M ∧ Q acc M
  | d :: ds, acc, M => gd M ∧ tt (some d :: fr) M fun b M1 => if b = true then te (some d :: fr) M1 fun y M2 => runLC gd tt te fr Q ds (acc ++ [y]) M2 else runLC gd tt te fr Q ds acc M1
def frOf (fs : List Nat) (ρ : En) : En := fs.map fun i => (ρ[i]?).join
section
variable {X : Cx} {sc : Scope} {x : Str} {ys : List Str} {fs : List Nat}
theorem frOf_get {fs : List Nat} {ρ : En} {k : Nat} {d : D} (h : (frOf fs ρ)[k]? = some (some d)) : ∃ i, fs[k]? = some i ∧ ρ[i]? = some (some d) := by
  unfold frOf at h
  rw [List.getElem?_map] at h
  cases e : fs[k]? with
  | none => rw [e] at h; cases h
  | some i =>
    rw [e] at h
    refine ⟨i, rfl, ?_⟩
    have h : (ρ[i]?).join = some d := Option.some.inj h
    cases q : ρ[i]? with
    | none => rw [q] at h; cases h
    | some o => rw [q] at h; rw [show o = some d from h]
theorem blk_start {pins : List (Addr × Obj)} {σ : St} {H : Hp} {s s' : Shared} {C : Addr} {fp : List Addr} {cl : List (Str × Addr)} {ρ : En} {M : Mp} (ck : CompOk X.env.scope X.N sc x ys fs) (I : Inv X pins σ H s) (r : Rep X.K H σ ρ M) (hcl : cl = closeL X.env.cells sc.names [])
    (hC : s.heap.objs.size ≤ C) (old : ∀ b o, s.heap.get? b = some o → s'.heap.get? b = some o) (ns : ∃ m, s'.heap.Ns C m) (hos : s'.os = s.os) (hg : s'.gens = s.gens) (hf : ∀ b ∈ fp, FpOk X pins H b) (hfp : ∀ b ∈ fp, b < s.heap.objs.size) :
    ∃ σ', Inv (blk X sc x ys cl C s H fp) [] σ' H s' ∧ Rep X.K H σ' (none :: frOf fs ρ) M := by
  have hcells : ∀ y ∈ sc.names, y.2 = .free → ∃ c, X.env.cells.lookup y.1 = some c := fun y hy hk => I.ok.has y.1 (.inl (ck.fre y hy hk))
  have cf : ∀ {y c}, cl.lookup y = some c → X.env.cells.lookup y = some c := fun {y c} e => by rw [hcl] at e; exact closeL_from hcells (fun _ _ z => by cases z) e
  have ch : ∀ y, sc.names.lookup y = some .free → ∃ c, cl.lookup y = some c := fun y e => by rw [hcl]; exact Option.isSome_iff_exists.mp (closeL_more (.inr (mem_of_lookup e)))
  have rk : ∀ y k, (relabel sc X.env).names.lookup y = some k → (k = .cell ∨ k = .free) → ∃ c, cl.lookup y = some c := by
    intro y k e hk
    have : ∃ k', sc.names.lookup y = some k' ∧ (k' = k ∨ k' = .free) := by
      clear ck hcells cf ch
      revert e
      show (sc.names.map _).lookup y = some k → _
      generalize sc.names = names
      intro e
      induction names with
      | nil => cases e
      | cons p r ih =>
        obtain ⟨n, kn⟩ := p
        simp only [List.map_cons] at e
        rw [List.lookup_cons]
        split
        · rename_i hx
          split at e
          · rename_i hc
            refine ⟨kn, rfl, .inr ?_⟩
            simp only [Bool.and_eq_true] at hc
            exact eq_of_beq hc.1.1
          · rw [List.lookup_cons, hx] at e
            exact ⟨kn, rfl, .inl (Option.some.inj e)⟩
        · rename_i hx
          split at e <;> (rw [List.lookup_cons, hx] at e; exact ih e)
    obtain ⟨k', e', hk'⟩ := this
    rcases hk' with rfl | rfl
    · rcases hk with rfl | rfl
      · exact absurd rfl (ck.nocell _ (mem_of_lookup e'))
      · exact ch y e'
    · exact ch y e'
  have lfp : ∀ b ∈ fp, b ≠ C := fun b hb z => absurd (Nat.lt_of_lt_of_le (hfp b hb) hC) (by rw [z]; exact Nat.lt_irrefl _)
  have ok : (blk X sc x ys cl C s H fp).Ok := {
    mod := I.ok.mod
    kind := ck.kind
    glob := I.ok.glob
    blt := I.ok.blt
    above := hC
    inj := fun a b c e1 e2 => I.ok.inj a b c (cf e1) (cf e2)
    has := fun y hy => by
      rcases hy with hy | hy
      · exact rk y _ hy (.inl rfl)
      · exact rk y _ hy (.inr rfl)
    cab := fun _ _ z => by cases z
    hd := I.ok.hd
    frames := I.ok.frames
    stk := .inl rfl
    exf := fun b hb => ⟨lfp b hb, fun y c e => (hf b hb).2.2.2.2.1 y c (cf e)⟩
    bs := I.bs
    bsz := Nat.le_trans I.ok.bsz I.sz
    noex := fun b o e hb => by
      rcases (hf b hb).2.2.2.1 with z | z
      · exact I.ok.noex b o e z
      · exact absurd (Nat.lt_of_lt_of_le (Heap.lt_size (I.ok.bs b o e).1) z) (Nat.lt_irrefl _)
    exfs := fun b hb z => by
      rcases List.mem_cons.mp (I.stkSub b z) with e | e
      · exact (hf b hb).2.1 e
      · exact (hf b hb).2.2.1 e
    funs := I.stack
    frf := I.stkFree }
  have fC : H C = none := I.hok.fresh hC
  obtain ⟨m, hm⟩ := ns
  refine ⟨none :: fs.map (fun i => (σ[i]?).join), ⟨ok, hos, by rw [hg]; exact I.bare, Un.kept old, ⟨m, hm, fun i y v e1 e2 e3 => ?_⟩, fun y c e => ?_, fC, fun y c e => I.freeC y c (cf e), fun p hp => (by cases hp), I.hok.kept old, by simp [ck.len]⟩, ⟨fun i d e => ?_, ?_, r.mem⟩⟩
  · cases i with
    | zero => cases e2
    | succ i =>
      have e1 : ys[i]? = some y := e1
      obtain ⟨j, f1, f2, f3⟩ := ck.at' i y e1
      have e2 : (fs.map fun i => (σ[i]?).join)[i]? = some (some v) := e2
      rw [List.getElem?_map, f1] at e2
      have e2 : (σ[j]?).join = some v := Option.some.inj e2
      have e4 : σ[j]? = some (some v) := by
        cases q : σ[j]? with
        | none => rw [q] at e2; cases e2
        | some o => rw [q] at e2; rw [show o = some v from e2]
      have hc : X.env.scope.names.lookup y = some .cell := ck.fre (y, .free) (mem_of_lookup f3) rfl
      obtain ⟨m0, _, hl⟩ := I.loc
      obtain ⟨u, ru, lk⟩ := hl j y v f2 e4 (.inr (.inl hc))
      refine ⟨u, ru, ?_⟩
      rcases lk with ⟨k1, _⟩ | ⟨_, c, e5, e6⟩
      · have k1 : X.env.scope.names.lookup y = some .local := k1
        rw [hc] at k1; cases k1
      · obtain ⟨c', e7⟩ := ch y f3
        have := cf e7
        rw [e5] at this
        cases this
        refine .inr ⟨.inl (relabel_free I.ok.kind hc f3), c, e7, ?_⟩
        obtain ⟨o, ho, hd⟩ := e6
        exact ⟨o, old _ _ ho, hd⟩
  · obtain ⟨v, o, ho, hd⟩ := I.cell y c (cf e)
    exact ⟨v, o, old _ _ ho, hd⟩
  · cases i with
    | zero => cases e
    | succ i =>
      obtain ⟨j, f1, f2⟩ := frOf_get (show (frOf fs ρ)[i]? = some (some d) from e)
      obtain ⟨v, g1, g2⟩ := r.env j d f2
      refine ⟨v, ?_, g2⟩
      show (fs.map fun i => (σ[i]?).join)[i]? = some (some v)
      rw [List.getElem?_map, f1]
      show some ((σ[j]?).join) = _
      rw [g1]; rfl
  · simp [frOf]
end
end L3
namespace L3
open PySem PySem.Spec PyProof.Rows L2
section
variable {X : Cx} {sc : Scope} {x : Str} {ys : List Str} {fs : List Nat} {elt iter : Expr} {px pos : Pos} {ifs : List Expr} {tt : TT3} {te : TE3}
theorem thnF {α : Type} {t : Sem α} {Q Q' : α → Shared → Prop} {M : Model} {A : Around} {E : Value → Shared → Prop} {s : Shared} (h : wpAny M A t Q (fun _ _ => False) s) (hQ : ∀ a s, Q a s → Q' a s) : wpAny M A t Q' E s := wpAny_mono h hQ fun _ _ z => z.elim
theorem compTurn_is (elt target iter : Expr) (ifs : List Expr) (sc : Scope) (pos : Pos) (it acc : Value) (env : Env) : compTurn (.ListComp elt [⟨target, iter, ifs, 0⟩] sc pos) 0 it acc env = (standAt iter.pos >>= fun _ => pyNext it >>= fun r => match r with
    | none => pure (.done .next)
    | some v => letOwnedTupleGo target it v >>= fun _ => assign target env v >>= fun _ => (forIn ifs true fun c r => if r = true then do { let ok ← isTrue c env (eval c env); pure (ForInStep.yield ok) } else pure (ForInStep.yield r)) >>= fun ok =>
      if ok = true then (eval elt env >>= fun y => call (.builtin "list.append") [acc, y] >>= fun _ => again (.compLoop (.ListComp elt [⟨target, iter, ifs, 0⟩] sc pos) 0 it acc env)) else again (.compLoop (.ListComp elt [⟨target, iter, ifs, 0⟩] sc pos) 0 it acc env)) := by
  rw [compTurn_list]
  congr 1; funext _; congr 1; funext r
  cases r with
  | none => rfl
  | some v =>
    dsimp only
    congr 1; funext _; congr 1; funext _; congr 1; funext ok
    cases ok with
    | false => rfl
    | true => simp only [if_true, bind_assoc, pure_bind]
structure LcSt (X X' : Cx) (Dl : Addr) (fp : List Addr) (tn : Nat → Heap → Prop) (M0 : Mp) (H0 : Hp) (fr : En) (i : Nat) (s : Shared) (acc : List D) (M : Mp) : Prop where
  ex : ∃ σ H y ws, Inv X' [] σ H s ∧ tn i s.heap ∧ (∀ b ∈ fp, H b = none) ∧ Rep X.K H σ (y :: fr) M ∧ Fr M0 H0 M H ∧ H Dl = some (.lst ws) ∧ M Dl = none ∧ Dats X.K H acc ws ∧ acc.length ≤ i
theorem lc_core (hc : X.calm = true) (ck : CompOk X.env.scope X.N sc x ys fs) (ht : ∀ cl C s0 H0 ex, PL3 (blk X sc x ys cl C s0 H0 ex) ifs tt) (he : ∀ cl C s0 H0 ex, PE3 (blk X sc x ys cl C s0 H0 ex) elt te)
    {pins : List (Addr × Obj)} {σ : St} {H : Hp} {s : Shared} {ρ : En} {M : Mp} {it : Addr} {fp : List Addr} {tn : Nat → Heap → Prop} {J : It} {inv : Hp → Prop} {ds : List D} {gd : Mp → Prop} {Q : DK} {E : Value → Shared → Prop} {Ma : Mp} {Ha : Hp} {use : Option (Value → Sem Unit)} {Qs : Value → Shared → Prop} (fa : Fr Ma Ha M H)
    (fin : ∀ (C Dl : Addr) (s6 : Shared) (H5 : Hp), Inv X pins σ H5 s6 → (∃ m, s6.heap.Ns C m) → FpOk X pins H5 C → Post X.K Ma Ha Q (.ref Dl) H5 → compPost (model X.prog X.w) X.A E use Qs (.ref Dl) C (.ok .next) s6)
    (I : Inv X pins σ H s) (r : Rep X.K H σ ρ M) (T : Turn X.prog X.w X.K (.Name x px) J fp it tn) (st : tn 0 s.heap) (hf : ∀ b ∈ fp, FpOk X pins H b) (hJ : ItIs X.K J inv ds) (hz : ds.length < sizeLine)
    (stay : ∀ M1 H1, Fr M H M1 H1 → RepM X.K H1 M1 → gd M1 → inv H1) (q : runLC gd tt te (frOf fs ρ) (fun zs M2 => ∀ p, M2 p = none → Q (.ref p) (updM M2 p (.lst zs))) ds [] M) :
    wpAny (model X.prog X.w) X.A (newList []) (fun acc s3 => wpAny (model X.prog X.w) X.A (newFunctionEnv sc X.env.globals (closeL X.env.cells sc.names []) [] X.env.qual none .none (some X.env)) (fun cenv s4 =>
      codeAny (model X.prog X.w) X.A (.compStart (.ListComp elt [⟨.Name x px, iter, ifs, 0⟩] sc pos) 0 (.ref it) acc { cenv with scope := relabel sc X.env }) (compPost (model X.prog X.w) X.A E use Qs acc cenv.locals) s4) E s3) E s := by
  have hfp : ∀ b ∈ fp, b < s.heap.objs.size := fun b hb => by
    obtain ⟨o, e, _⟩ := T.obj 0 _ st b hb
    exact Heap.lt_size e
  refine wpAny_newList (hsz := Nat.zero_le _) ?_
  have fD : H s.heap.objs.size = none := I.hok.fresh (Nat.le_refl _)
  have k1 : ∀ b o, s.heap.get? b = some o → (s.heap.push { cls := .type "list", data := .seq ([] : List Value).toArray }).get? b = some o := fun b o e => Heap.get?_push_of_some _ e
  have z3 : (s.heap.push { cls := .type "list", data := .seq ([] : List Value).toArray }).objs.size = s.heap.objs.size + 1 := Heap.size_push ..
  have I3 : Inv X pins σ (upd H s.heap.objs.size (.lst [])) { s with heap := s.heap.push { cls := .type "list", data := .seq ([] : List Value).toArray } } :=
    I.laid (t' := s.toks) k1 (Nat.le_refl _) ⟨Nat.zero_le _, [], 0, .nil, Heap.get?_push_size _ rfl⟩
  refine wpAny_newFunctionEnv ck.nocell (fun y hy => by cases hy) (fun h1 ns1 sb1 => ?_) ck.kind
  generalize hs3 : ({ s with heap := s.heap.push { cls := .type "list", data := .seq ([] : List Value).toArray } } : Shared) = s3 at I3 ns1 sb1 ⊢
  have zs3 : s3.heap.objs.size = s.heap.objs.size + 1 := by rw [← hs3]; exact z3
  have old : ∀ b o, s3.heap.get? b = some o → h1.get? b = some o := fun b o e => sb1.extBut b o (Nat.ne_of_lt (Heap.lt_size e)) (Heap.get?_push_of_some _ e)
  have hf3 : ∀ b ∈ fp, FpOk X pins (upd H s.heap.objs.size (.lst [])) b := fun b hb => ⟨by rw [upd_ne (Nat.ne_of_lt (hfp b hb))]; exact (hf b hb).1, (hf b hb).2⟩
  have frN : Fr M H M (upd H s.heap.objs.size (.lst [])) := Fr.new fD fun _ _ => rfl
  have r3 : Rep X.K (upd H s.heap.objs.size (.lst [])) σ ρ M := r.go frN (r.mem.new fD)
  obtain ⟨σ', I4, r4⟩ := blk_start (s := s3) (s' := { s3 with heap := h1, toks := s3.toks + ([] : List (Str × Value)).length }) (C := s3.heap.objs.size) (fp := fp) ck I3 r3 rfl (Nat.le_refl _) old ⟨_, ns1⟩ rfl rfl hf3 (fun b hb => by rw [zs3]; exact Nat.lt_succ_of_lt (hfp b hb))
  have MD : M s.heap.objs.size = none := r.mem.free fD
  have st4 : tn 0 h1 := T.keep 0 _ _ st fun b hb o e => old b o (by rw [← hs3]; exact k1 b o e)
  have fpX : ∀ {H' : Hp}, (∀ b ∈ fp, H' b = none) → ∀ b ∈ fp, FpOk (blk X sc x ys (closeL X.env.cells sc.names []) s3.heap.objs.size s3 (upd H s.heap.objs.size (.lst [])) fp) [] H' b := fun {H'} hn b hb =>
    ⟨hn b hb, (I4.ok.exf b hb).1, I4.ok.exfs b hb, .inl hb, fun y c e z => (I4.ok.exf b hb).2 y c e z, fun p hp => by cases hp⟩
  have loop : ∀ s4 : Shared, s4 = { s3 with heap := h1, toks := s3.toks + ([] : List (Str × Value)).length } →
      codeAny (model X.prog X.w) X.A (.compLoop (.ListComp elt [⟨.Name x px, iter, ifs, 0⟩] sc pos) 0 (.ref it) (.ref s.heap.objs.size) ((blk X sc x ys (closeL X.env.cells sc.names []) s3.heap.objs.size s3 (upd H s.heap.objs.size (.lst [])) fp)).env) (compPost (model X.prog X.w) X.A E use Qs (.ref s.heap.objs.size) s3.heap.objs.size) s4 := by
    rintro s4 rfl
    refine codeAny_loop rfl (I := fun n s' => ∃ i acc M', n = ds.length - i ∧ i ≤ ds.length ∧ LcSt X (blk X sc x ys (closeL X.env.cells sc.names []) s3.heap.objs.size s3 (upd H s.heap.objs.size (.lst [])) fp) s.heap.objs.size fp tn M H (frOf fs ρ) i s' acc M' ∧ runLC gd tt te (frOf fs ρ) (fun zs M2 => ∀ p, M2 p = none → Q (.ref p) (updM M2 p (.lst zs))) (ds.drop i) acc M')
      (fun n s5 hI => ?_) ds.length ⟨0, [], M, rfl, Nat.zero_le _, ⟨σ', _, none, [], I4, st4, fun b hb => (hf3 b hb).1, r4, frN, upd_same, MD, dats_nil.mpr rfl, Nat.le_refl _⟩, q⟩
    obtain ⟨i, acc, M5, rfl, hi, ⟨σ5, H5, y5, ws, I5, st5, f5, r5, fr5, hD5, hM5, da5, la5⟩, q5⟩ := hI
    show wpAny (model X.prog X.w) X.A ((compTurn (.ListComp elt [⟨.Name x px, iter, ifs, 0⟩] sc pos) 0 (.ref it) (.ref s.heap.objs.size) ((blk X sc x ys (closeL X.env.cells sc.names []) s3.heap.objs.size s3 (upd H s.heap.objs.size (.lst [])) fp)).env).onRaise (fun z => do { noteFrame z ((blk X sc x ys (closeL X.env.cells sc.names []) s3.heap.objs.size s3 (upd H s.heap.objs.size (.lst [])) fp)).env; theTreesLotGoes z })) _ _ s5
    refine wpAny_noted ?_
    rw [compTurn_is]
    refine wpAny_bind (wpAny_standAt ?_)
    by_cases hlt : i < ds.length
    · have hdr : ds.drop i = ds[i] :: ds.drop (i + 1) := List.drop_eq_getElem_cons hlt
      rw [hdr] at q5
      obtain ⟨hg, q5⟩ := q5
      have hinv := stay M5 H5 fr5 r5.mem hg
      refine wpAny_bind (thnF (T.item (blk X sc x ys (closeL X.env.cells sc.names []) s3.heap.objs.size s3 (upd H s.heap.objs.size (.lst [])) fp) rfl rfl rfl hc i [] s5 σ5 H5 (fun _ _ => False) I5 (fpX f5) st5 (hJ.go i H5 hlt hinv)) fun r6 s6 ⟨u, e6, h6⟩ => ?_)
      subst e6
      refine wpAny_bind (thnF h6 fun _ s7 ⟨v, H7, I7, rv, yl, st7, f7⟩ => ?_)
      obtain ⟨e7, d, hd1, hd2⟩ := hJ.yld i H5 v H7 hlt hinv yl
      subst e7
      have ed : d = ds[i] := Option.some.inj (hd1.symm.trans (List.getElem?_eq_getElem hlt))
      subst ed
      have I7' := I7.pinned (fpX f7) (T.obj _ _ st7)
      have lx : (relabel sc X.env).names.lookup x = some .local := lookup_relabel_local ck.loc
      refine wpAny_bind (thnF ((g_name (X := (blk X sc x ys (closeL X.env.cells sc.names []) s3.heap.objs.size s3 (upd H s.heap.objs.size (.lst [])) fp)) (i := 0) (x := x) (pos := px) ck.nd rfl (.inl lx) (.inr lx)).run _ s7 σ5 H7 (y5 :: frOf fs ρ) M5 v ds[i] u (fun ρ' M' => ρ' = some ds[i] :: frOf fs ρ ∧ M' = M5) I7' r5 rv hd2 ⟨rfl, rfl⟩) fun _ s8 ⟨σ8, H8, I8, ρ8, M8, fr8, r8, e8, e8'⟩ => ?_)
      subst e8 e8'
      obtain ⟨hD8, hM8⟩ := fr8 _ _ hM5 hD5
      refine wpAny_bind (thnF ((ht _ _ _ _ _).run _ s8 σ8 H8 _ M8 _ I8 r8 q5) fun b s9 ⟨H9, I9, M9, fr9, rm9, q9⟩ => ?_)
      obtain ⟨hD9, hM9⟩ := fr9 _ _ hM8 hD8
      have r9 := r8.go fr9 rm9
      have fr59 := (fr5.trans fr8).trans fr9
      have da9 : Dats X.K H9 acc ws := Dats.mono ((fr8.trans fr9).ext r5.mem) _ _ da5
      have next : ∀ {H' : Hp} {s' : Shared}, Inv (blk X sc x ys (closeL X.env.cells sc.names []) s3.heap.objs.size s3 (upd H s.heap.objs.size (.lst [])) fp) ([] ++ pinsAt fp s7.heap) σ8 H' s' → (tn (i + 1) s'.heap ∧ ∀ b ∈ fp, H' b = none) := fun {H' s'} I' => by
        have pin : ∀ b ∈ fp, ∀ o, s7.heap.get? b = some o → s'.heap.get? b = some o ∧ H' b = none := fun b hb o e => by
          have := I'.pin (b, o) (List.mem_append_right _ (List.mem_append_right _ (mem_pinsAt hb e)))
          exact ⟨this.1, this.2.1⟩
        refine ⟨T.keep _ _ _ st7 fun b hb o e => (pin b hb o e).1, fun b hb => ?_⟩
        obtain ⟨o, e, _⟩ := T.obj _ _ st7 b hb
        exact (pin b hb o e).2
      cases b with
      | false =>
        rw [if_neg Bool.false_ne_true]
        obtain ⟨n1, n2⟩ := next I9
        exact wpAny_pure ⟨rfl, ds.length - (i + 1), by omega, i + 1, acc, M9, rfl, hlt, ⟨σ8, H9, _, ws, I9.unpinned, n1, n2, r9, fr59, hD9, hM9, da9, by omega⟩, q9⟩
      | true =>
        rw [if_pos rfl]
        refine wpAny_bind (thnF ((he _ _ _ _ _).run _ s9 σ8 H9 _ M9 _ I9 r9 q9) fun u10 s10 ⟨v10, H10, I10, rv10, dy, M10, fr10, dd10, rm10, q10⟩ => ?_)
        obtain ⟨hD10, hM10⟩ := fr10 _ _ hM9 hD9
        have r10 := r9.go fr10 rm10
        have da10 : Dats X.K H10 acc ws := Dats.mono (fr10.ext r9.mem) _ _ da9
        have lw : ws.length < sizeLine := by rw [← da10.length]; omega
        refine wpAny_bind (thnF (mt_append (X := (blk X sc x ys (closeL X.env.cells sc.names []) s3.heap.objs.size s3 (upd H s.heap.objs.size (.lst [])) fp)) _ s10 σ8 H10 (.ref s.heap.objs.size) [v10] (.ref s.heap.objs.size) [u10] (fun _ H' => H' = upd H10 s.heap.objs.size (.lst (ws ++ [v10]))) I10 rfl (.cons rv10 .nil) ⟨_, ws, v10, rfl, rfl, hD10, lw, rfl⟩) fun _ s11 ⟨_, H11, I11, _, e11⟩ => ?_)
        subst e11
        have ex : Ext H10 (upd H10 s.heap.objs.size (.lst (ws ++ [v10]))) := Ext.writeL hD10
        have rm11 : RepM X.K (upd H10 s.heap.objs.size (.lst (ws ++ [v10]))) M10 := fun a o e => by
          have na : a ≠ s.heap.objs.size := fun z => by rw [z, hM10] at e; cases e
          exact (rm10 a o e).mono ex fun u q => by rw [upd_ne na]; exact q
        have r11 : Rep X.K (upd H10 s.heap.objs.size (.lst (ws ++ [v10]))) σ8 (some ds[i] :: frOf fs ρ) M10 := ⟨fun j d e => let ⟨v, e1, e2⟩ := r10.env j d e; ⟨v, e1, Dat.mono ex _ _ e2⟩, r10.len, rm11⟩
        have fr11 : Fr M H M10 (upd H10 s.heap.objs.size (.lst (ws ++ [v10]))) := fun b o n e => by
          obtain ⟨e1, n1⟩ := (fr59.trans fr10) b o n e
          exact ⟨by rw [upd_ne (ne_of_none e fD)]; exact e1, n1⟩
        obtain ⟨n1, n2⟩ := next I11
        exact wpAny_pure ⟨rfl, ds.length - (i + 1), by omega, i + 1, acc ++ [dy], M10, rfl, hlt, ⟨σ8, _, _, ws ++ [v10], I11.unpinned, n1, n2, r11, fr11, upd_same, hM10, Dats.mono ex _ _ (da10.append (Dats.one dd10)), by simp; omega⟩, q10⟩
    · have ei : i = ds.length := by omega
      subst ei
      rw [List.drop_of_length_le (Nat.le_refl _)] at q5
      obtain ⟨hg, q5⟩ := q5
      have hinv := stay M5 H5 fr5 r5.mem hg
      refine wpAny_bind (thnF (T.done (blk X sc x ys (closeL X.env.cells sc.names []) s3.heap.objs.size s3 (upd H s.heap.objs.size (.lst [])) fp) rfl rfl rfl hc ds.length [] s5 σ5 H5 (fun _ _ => False) I5 (fpX f5) st5 (hJ.stop H5 hinv)) fun r6 s6 ⟨e6, I6⟩ => ?_)
      subst e6
      refine wpAny_pure ?_
      obtain ⟨m, hm, _⟩ := id I6.loc
      have I7 : Inv X pins σ H5 s6 := I3.call' (s' := s6) (ch := fp) I6.os I6.base I6.hok I6.bare fun b hb => ⟨(hf b hb).2.2.2.1, (hf b hb).2.1, (hf b hb).2.2.2.2.1, (hf b hb).2.2.2.2.2⟩
      refine fin _ _ s6 H5 I7 ⟨m, hm⟩ (I3.fpOk (Nat.le_refl _) I6.free) (Post.back fa ⟨.ref s.heap.objs.size, updM M5 s.heap.objs.size (.lst acc), fun b o n e => ?_, dat_ref.mpr rfl, fun a o e => ?_, q5 _ hM5⟩)
      · obtain ⟨e1, n1⟩ := fr5 b o n e
        exact ⟨e1, by rw [updM_ne (ne_of_none e fD)]; exact n1⟩
      · by_cases ha : a = s.heap.objs.size
        · subst ha
          rw [updM_same] at e
          cases e
          exact ⟨ws, hD5, da5⟩
        · rw [updM_ne ha] at e
          exact r5.mem a o e
  exact codeAny_compStart_list (loop _ rfl) (T.self X.A 0 _ _ _ st4 (loop _ rfl))
end
end L3
namespace L3
open PySem PySem.Spec PyProof.Rows L2
section
variable {X : Cx} {sc : Scope} {x : Str} {ys : List Str} {fs : List Nat} {elt iter : Expr} {px pos : Pos} {ifs : List Expr} {tt : TT3} {te : TE3} {ti : TE3}
def wLC (Q : DK) : List D → Mp → Prop := fun zs M2 => ∀ p, M2 p = none → Q (.ref p) (updM M2 p (.lst zs))
def tLCT (fs : List Nat) (ti : TE3) (tt : TT3) (te : TE3) : TE3 := fun ρ M Q => ti ρ M fun d M1 => ∃ xs, d = .tup xs ∧ xs.length < sizeLine ∧ Hold (runLC (fun _ => True) tt te (frOf fs ρ) (wLC Q) xs [] M1)
def tLCL (fs : List Nat) (ti : TE3) (tt : TT3) (te : TE3) : TE3 := fun ρ M Q => ti ρ M fun d M1 => ∃ a xs, d = .ref a ∧ M1 a = some (.lst xs) ∧ xs.length < sizeLine ∧ Hold (runLC (fun M => M a = some (.lst xs)) tt te (frOf fs ρ) (wLC Q) xs [] M1)
def tLCR (fs : List Nat) (t : TA3) (tt : TT3) (te : TE3) : TE3 := fun ρ M Q => t ρ M fun vs M1 => ∃ j : Int, vs = [.int j] ∧ -(2 ^ 62) ≤ j ∧ j < 2 ^ 62 ∧ j.toNat < sizeLine ∧ Hold (runLC (fun _ => True) tt te (frOf fs ρ) (wLC Q) ((List.range j.toNat).map fun (k : Nat) => L3.D.int (k : Int)) [] M1)
def RLC (X : Cx) (fs : List Nat) (tt : TT3) (te : TE3) (σ : St) (ρ : En) (M : Mp) (H : Hp) (Q : DK) : It → Hp → Prop := fun J H2 => ∃ M2 inv ds gd, Fr M H M2 H2 ∧ Rep X.K H2 σ ρ M2 ∧ ItIs X.K J inv ds ∧ ds.length < sizeLine ∧ (∀ M1 H1, Fr M2 H2 M1 H1 → RepM X.K H1 M1 → gd M1 → inv H1) ∧ runLC gd tt te (frOf fs ρ) (wLC Q) ds [] M2
theorem fin_val {pins : List (Addr × Obj)} {σ : St} {M : Mp} {H : Hp} {Q : DK} {E : Value → Shared → Prop} : ∀ (C Dl : Addr) (s6 : Shared) (H5 : Hp), Inv X pins σ H5 s6 → (∃ m, s6.heap.Ns C m) → FpOk X pins H5 C → Post X.K M H Q (.ref Dl) H5 →
    compPost (model X.prog X.w) X.A E none (EP X pins σ (Post X.K M H Q)) (.ref Dl) C (.ok .next) s6 := fun C Dl s6 H5 I ⟨m, hm⟩ f P =>
  ⟨m, hm, fun h' sb => ⟨.ref Dl, H5, I.turned (t' := s6.toks) (fun b o hb e => sb.extBut b o hb e) f.1 f.2.1 f.2.2.2.1 f.2.2.2.2.1 f.2.2.2.2.2, rfl, P⟩⟩
theorem lc_go {use : Option (Value → Sem Unit)} {Qs : Value → Shared → Prop} {ps : Pos} (hc : X.calm = true) (hk : compChk X.env.scope X.N sc x ys fs = true) (ht : ∀ cl C s0 H0 ex, PL3 (blk X sc x ys cl C s0 H0 ex) ifs tt) (he : ∀ cl C s0 H0 ex, PE3 (blk X sc x ys cl C s0 H0 ex) elt te)
    (hs : ∀ z, foldedSetIterable iter X.env z = pure z) {pins : List (Addr × Obj)} {s : Shared} {σ : St} {H : Hp} {ρ : En} {M : Mp} {Q : DK} (I : Inv X pins σ H s)
    (fin : ∀ (C Dl : Addr) (s6 : Shared) (H5 : Hp), Inv X pins σ H5 s6 → (∃ m, s6.heap.Ns C m) → FpOk X pins H5 C → Post X.K M H Q (.ref Dl) H5 → compPost (model X.prog X.w) X.A X.xe use Qs (.ref Dl) C (.ok .next) s6)
    (h : wpAny (model X.prog X.w) X.A (eval iter X.env) (fun v s1 => wpAny (model X.prog X.w) X.A (pyIter v) (PIE X pins σ (.Name x px) (RLC X fs tt te σ ρ M H Q)) X.xe s1) X.xe s) :
    wpAny (model X.prog X.w) X.A (comprehension (.ListComp elt [⟨.Name x px, iter, ifs, 0⟩] sc pos) sc X.env ps (newList []) false (eval iter X.env) use) Qs X.xe s := by
  have ck := CompOk.of hk
  refine wpAny_comprehension_free (use := use) (cl := closeL X.env.cells sc.names []) rfl hs (closure_is fun y hy z => I.ok.has y.1 (.inl (ck.fre y hy z))) ck.kind ck.names (thn h fun v s1 h1 => thn h1 fun itv s2 h2 => ?_)
  obtain ⟨it, fp, tn, J, H2, e, I2, T, st2, f2, M2, inv, ds, gd, fr, r2, hJ, hz, stay, q⟩ := h2
  subst e
  exact lc_core hc ck ht he fr fin I2 r2 T st2 f2 hJ hz stay q
structure PC3 (X : Cx) (sc : Scope) (x : Str) (px : Pos) (ys : List Str) (fs : List Nat) (iter : Expr) (ifs : List Expr) (elt : Expr) (t : TE3) : Prop where
  run : ∀ {use : Option (Value → Sem Unit)} {Qs : Value → Shared → Prop} {ps pos : Pos} {pins : List (Addr × Obj)} {s : Shared} {σ : St} {H : Hp} {ρ : En} {M : Mp} {Q : DK}, Inv X pins σ H s → Rep X.K H σ ρ M → t ρ M Q →
    (∀ (C Dl : Addr) (s6 : Shared) (H5 : Hp), Inv X pins σ H5 s6 → (∃ m, s6.heap.Ns C m) → FpOk X pins H5 C → Post X.K M H Q (.ref Dl) H5 → compPost (model X.prog X.w) X.A X.xe use Qs (.ref Dl) C (.ok .next) s6) →
    wpAny (model X.prog X.w) X.A (comprehension (.ListComp elt [⟨.Name x px, iter, ifs, 0⟩] sc pos) sc X.env ps (newList []) false (eval iter X.env) use) Qs X.xe s
theorem q_lc {t : TE3} (h : PC3 X sc x px ys fs iter ifs elt t) : PE3 X (.ListComp elt [⟨.Name x px, iter, ifs, 0⟩] sc pos) t := by
  constructor
  intro pins s σ H ρ M Q I r q
  rw [eval_ListComp]
  exact h.run I r q fin_val
theorem s_lc {t : TE3} {j : Nat} {y : Str} {py spos : Pos} (h : PC3 X sc x px ys fs iter ifs elt t) (hN : X.N.Nodup) (hj : X.N[j]? = some y) (hy : Loc X.env.scope y)
    (hsw : swapsWith (.ListComp elt [⟨.Name x px, iter, ifs, 0⟩] sc pos) (some (.Name y py)) spos.line X.env = pure true := by rfl) (hf : X.fn y = true ∨ X.env.scope.names.lookup y = some .local := by first | exact .inl rfl | exact .inr rfl) :
    PS3 X (.Assign [.Name y py] (.ListComp elt [⟨.Name x px, iter, ifs, 0⟩] sc pos) spos) (tSet3 j t) := by
  constructor
  intro pins s σ H ρ M D I r q
  rw [exec_Assign_Name_used _ _ _ _ hsw]
  refine wpAny_bind (wpAny_standAt (wpAny_bind ?_))
  show wpAny (model X.prog X.w) X.A (do { let _ ← comprehension (.ListComp elt [⟨.Name x px, iter, ifs, 0⟩] sc pos) sc X.env _ (newList []) false (eval iter X.env) (some (assign (.Name y py) X.env)) }) _ _ s
  refine wpAny_bind (thn (h.run (use := some (assign (.Name y py) X.env)) (Qs := fun _ s' => SP X pins (ends X.K M H D) .next s') I r q fun C Dl s6 H5 I6 hC f P => ?_) fun _ s' hq => wpAny_pure (wpAny_pure hq))
  obtain ⟨m, o, es, ep, ho, hd, hrest⟩ := hC
  obtain ⟨d, M5, fr5, dd, rm5, q5⟩ := P
  have I6' : Inv X (pins ++ [(C, o)]) σ H5 s6 := I6.pins_of fun p hp => (List.mem_append.mp hp).elim (fun z => I6.pin p (List.mem_append_right _ z)) fun z => by
    have e := List.mem_singleton.mp z
    subst e
    exact ⟨ho, f.1, f.2.1, f.2.2.1, fun v z => by rw [hd] at z; cases z⟩
  refine thn ((g_name (i := j) (x := y) (pos := py) hN hj hy hf).run _ s6 σ H5 ρ M5 (.ref Dl) d (.ref Dl) (D.nx) I6' (r.go fr5 rm5) rfl dd q5) fun _ s7 ⟨σ7, H7, I7, ρ7, M7, fr7, r7, q7⟩ => ?_
  have pin := I7.pin (C, o) (List.mem_append_right _ (List.mem_append_right _ (List.mem_singleton.mpr rfl)))
  refine ⟨m, ⟨o, es, ep, pin.1, hd, hrest⟩, fun h' sb => ?_⟩
  have I8 : Inv X pins σ7 H7 s7 := I7.pins_of fun p hp => I7.pin p (List.mem_append_right _ (List.mem_append_left _ hp))
  exact ⟨σ7, H7, I8.turned (t' := s7.toks) (fun b o hb e => sb.extBut b o hb e) pin.2.1 f.2.1 f.2.2.2.1 f.2.2.2.2.1 f.2.2.2.2.2, ρ7, M7, fr5.trans fr7, r7, q7⟩
theorem q_lcT (hc : X.calm = true) (hk : compChk X.env.scope X.N sc x ys fs = true) (hi : PE3 X iter ti) (ht : ∀ cl C s0 H0 ex, PL3 (blk X sc x ys cl C s0 H0 ex) ifs tt) (he : ∀ cl C s0 H0 ex, PE3 (blk X sc x ys cl C s0 H0 ex) elt te)
    (hs : ∀ z, foldedSetIterable iter X.env z = pure z := by intro _; rfl) : PC3 X sc x px ys fs iter ifs elt (tLCT fs ti tt te) := by
  constructor
  intro use Qs ps pos pins s σ H ρ M Q I r h fin
  refine lc_go (ρ := ρ) hc hk ht he hs I fin (pi_tup hi.dn pins s σ H _ I (dn_of r h fun v H' d M' f dv r' ⟨xs, e1, hz, q⟩ => ?_))
  subst e1
  obtain ⟨a, zs, rfl, ha, hy⟩ := dat_tup.mp dv
  refine ⟨a, rfl, ⟨zs, SqT.of ha⟩, M', _, xs, _, f, r', itt_is, hz, fun M1 H1 f1 _ _ => ⟨zs, ?_, Dats.mono (f1.ext r'.mem) _ _ hy⟩, q.out⟩
  exact (f1 a _ (r'.mem.notLst ha (fun _ z => by cases z)) ha).1
theorem q_lcL (hc : X.calm = true) (hk : compChk X.env.scope X.N sc x ys fs = true) (hi : PE3 X iter ti) (ht : ∀ cl C s0 H0 ex, PL3 (blk X sc x ys cl C s0 H0 ex) ifs tt) (he : ∀ cl C s0 H0 ex, PE3 (blk X sc x ys cl C s0 H0 ex) elt te)
    (hs : ∀ z, foldedSetIterable iter X.env z = pure z := by intro _; rfl) : PC3 X sc x px ys fs iter ifs elt (tLCL fs ti tt te) := by
  constructor
  intro use Qs ps pos pins s σ H ρ M Q I r h fin
  refine lc_go (ρ := ρ) hc hk ht he hs I fin (pi_list hi.dn pins s σ H _ I (dn_of r h fun v H' d M' f dv r' ⟨a, xs, e1, hM, hz, q⟩ => ?_))
  subst e1
  obtain rfl := dat_ref.mp dv
  obtain ⟨zs, ha, hy⟩ := r'.mem.lst hM
  exact ⟨a, rfl, ⟨zs, SqL.of ha⟩, M', _, xs, _, f, r', itl_is, hz, fun M1 H1 f1 rm1 g1 => rm1.lst g1, q.out⟩
theorem q_lcR {a : Expr} {t : TA3} {p rpos : Pos} (hc : X.calm = true) (hk : compChk X.env.scope X.N sc x ys fs = true) (hgl : Gl X "range") (hm : X.mg "range" = none) (ha : PA3 X [a] t) (ht : ∀ cl C s0 H0 ex, PL3 (blk X sc x ys cl C s0 H0 ex) ifs tt) (he : ∀ cl C s0 H0 ex, PE3 (blk X sc x ys cl C s0 H0 ex) elt te)
    (hst : starEach [a] X.env = [(false, eval a X.env)] := by rfl) (hs : ∀ z, foldedSetIterable (.Call (.Name "range" p) [a] [] rpos) X.env z = pure z := by intro _; rfl) : PC3 X sc x px ys fs (.Call (.Name "range" p) [a] [] rpos) ifs elt (tLCR fs t tt te) := by
  constructor
  intro use Qs ps pos pins s σ H ρ M Q I r h fin
  refine lc_go (ρ := ρ) hc hk ht he hs I fin (pi_range1 hgl hm ha.dn hst pins s σ H _ I (dnA_of r h fun vs H' ds M' f dv r' ⟨j, e1, h1, h2, hz, q⟩ => ?_))
  subst e1
  obtain ⟨v, rfl, hv⟩ := dats1 dv
  obtain rfl := dat_int.mp hv
  exact ⟨j, rfl, h1, h2, M', _, _, _, f, r', itr_is, by simpa using hz, fun _ _ _ _ _ => trivial, q.out⟩
theorem runLC_inv {gd : Mp → Prop} {fr : En} {Q : List D → Mp → Prop} {M : Mp} (Pv : Nat → List D → Mp → Prop) : ∀ (ds : List D), (∀ (i : Nat) (d : D) (acc : List D) (M : Mp) (N : List D → Mp → Prop), ds[i]? = some d → Pv i acc M → (∀ acc' M', Pv (i + 1) acc' M' → N acc' M') →
      gd M ∧ tt (some d :: fr) M fun b M1 => if b = true then te (some d :: fr) M1 fun y M2 => N (acc ++ [y]) M2 else N acc M1) →
    (∀ acc M, Pv ds.length acc M → gd M ∧ Q acc M) → Pv 0 [] M → runLC gd tt te fr Q ds [] M := by
  intro ds hstep hend h0
  have key : ∀ (zs : List D) (i : Nat) (acc : List D) (M : Mp), ds.drop i = zs → Pv i acc M → i ≤ ds.length → runLC gd tt te fr Q zs acc M := by
    intro zs
    induction zs with
    | nil =>
      intro i acc M e p hi
      have : ds.length ≤ i := by
        have := congrArg List.length e
        rw [List.length_drop] at this
        simp at this
        omega
      obtain rfl : i = ds.length := by omega
      exact hend acc M p
    | cons z zs ih =>
      intro i acc M e p hi
      have hx : ds[i]? = some z := by
        have := congrArg (fun l => l[0]?) e
        simpa using this
      have hlt : i < ds.length := (List.getElem?_eq_some_iff.mp hx).1
      refine hstep i z acc M _ hx p fun acc' M' p' => ih (i + 1) acc' M' ?_ p' hlt
      rw [← List.drop_drop, e]
      rfl
  exact key ds 0 [] M rfl h0 (Nat.zero_le _)
end
end L3
namespace L3
open PySem PySem.Spec PyProof.Rows L2
section
variable {X : Cx}
theorem eqDs_len {ds es : List D} (h : ds.length ≠ es.length) : eqDs ds es = false := by
  rw [eqDs_all, beq_eq_false_iff_ne.mpr h, Bool.and_false]
abbrev TO3 := En → Mp → (Option Int → Mp → Prop) → Prop
structure PO3 (X : Cx) (e : Option Expr) (t : TO3) : Prop where
  dn : ∃ t2 : TO, PO X e t2 ∧ ∀ σ H ρ M Q Q', Rep X.K H σ ρ M → t ρ M Q → (∀ o H' M', Fr M H M' H' → Rep X.K H' σ ρ M' → Q o M' → Q' o H') → t2 σ H Q'
def tPart3 (t : TE3) : TO3 := fun ρ M Q => t ρ M fun d M1 => ∃ i, d = .int i ∧ Q (some i) M1
theorem p_some {e : Expr} {t : TE3} (h : PE3 X e t) : PO3 X (some e) (tPart3 t) := ⟨tPart (L3.dn X.K t), po_some h.dn, fun σ H ρ M Q Q' r q k => dn_of r q fun v H' d M' f dv r' ⟨i, e1, q⟩ => by
  subst e1
  obtain rfl := dat_int.mp dv
  exact ⟨i, rfl, k (some i) H' M' f r' q⟩⟩
def cutD (xs : List D) (lo hi : Option Int) : List D := (xs.drop (HT.sIx xs.length 0 lo)).take (HT.sIx xs.length xs.length hi - HT.sIx xs.length 0 lo)
theorem Dats.drop {K : PySem.W.Frag} {H : Hp} : ∀ {ds : List D} {xs : List V} (n : Nat), Dats K H ds xs → Dats K H (ds.drop n) (xs.drop n)
  | ds, xs, 0, h => h
  | [], xs, n + 1, h => by rw [dats_nil.mp h]; exact dats_nil.mpr rfl
  | d :: ds, xs, n + 1, h => by
    obtain ⟨v, vs, rfl, _, h2⟩ := dats_cons.mp h
    exact Dats.drop n h2
theorem Dats.take {K : PySem.W.Frag} {H : Hp} : ∀ {ds : List D} {xs : List V} (n : Nat), Dats K H ds xs → Dats K H (ds.take n) (xs.take n)
  | ds, xs, 0, h => dats_nil.mpr rfl
  | [], xs, n + 1, h => by rw [dats_nil.mp h]; exact dats_nil.mpr rfl
  | d :: ds, xs, n + 1, h => by
    obtain ⟨v, vs, rfl, h1, h2⟩ := dats_cons.mp h
    exact dats_cons.mpr ⟨v, vs.take n, rfl, h1, Dats.take n h2⟩
def rCatL : R3 := fun d e M Q => ∃ a b xs ys, d = .ref a ∧ e = .ref b ∧ M a = some (.lst xs) ∧ M b = some (.lst ys) ∧ xs.length + ys.length ≤ sizeLine ∧ ∀ p, M p = none → Q (.ref p) (updM M p (.lst (xs ++ ys)))
theorem o_cat : Op3 X (binaryOp .Add) rCatL := op3 op_cat fun H M x y d e Q rm dx dy ⟨a, b, xs, ys, e1, e2, ha, hb, hz, q⟩ => by
  subst e1; subst e2
  obtain rfl := dat_ref.mp dx
  obtain rfl := dat_ref.mp dy
  obtain ⟨zs, h1, h2⟩ := rm.lst ha
  obtain ⟨ws, h3, h4⟩ := rm.lst hb
  exact ⟨a, b, zs, ws, rfl, rfl, h1, h3, by rw [← h2.length, ← h4.length]; exact hz, fun p hp => ⟨.ref p, updM M p (.lst (xs ++ ys)), Fr.new hp fun _ hb => updM_ne hb, dat_ref.mpr rfl, rm.newL hp (h2.append h4), q p (rm.free hp)⟩⟩
theorem Dats.rep {K : PySem.W.Frag} {H : Hp} {ds : List D} {xs : List V} (h : Dats K H ds xs) : ∀ k : Nat, Dats K H (List.replicate k ds).flatten (List.replicate k xs).flatten
  | 0 => dats_nil.mpr rfl
  | k + 1 => by
    rw [List.replicate_succ, List.replicate_succ, List.flatten_cons, List.flatten_cons]
    exact h.append (Dats.rep h k)
end
end L3
namespace L3
open PySem PySem.Spec PyProof.Rows L2
section
variable {X : Cx}
def Lst (M : Mp) (d : D) (xs : List D) : Prop := d = .frl xs ∨ ∃ a, d = .ref a ∧ M a = some (.lst xs)
theorem Lst.of {M : Mp} {a : Addr} {xs : List D} (h : M a = some (.lst xs)) : Lst M (.ref a) xs := .inr ⟨a, rfl, h⟩
theorem Lst.sq {K : PySem.W.Frag} {H : Hp} {M : Mp} {d : D} {xs : List D} {x : V} (h : Lst M d xs) (rm : RepM K H M) (dx : Dat K H d x) : ∃ a zs, x = .ref a ∧ SqL K H a zs ∧ Dats K H xs zs := by
  rcases h with rfl | ⟨a, rfl, hM⟩
  · obtain ⟨a, zs, rfl, h1, h2⟩ := dat_frl.mp dx
    exact ⟨a, zs, rfl, h1.sq, h2⟩
  · obtain rfl := dat_ref.mp dx
    obtain ⟨zs, h1, h2⟩ := rm.lst hM
    exact ⟨a, zs, rfl, SqL.of h1, h2⟩
def rEqLL : R3 := fun d e M Q => ∃ xs ys, Lst M d xs ∧ Lst M e ys ∧ xs.all (plain 9) = true ∧ ys.all (plain 9) = true ∧ Q (.bl (eqDs xs ys)) M
theorem o_eqLL (hu : X.A.units + 64 < cLine) : Op3 X (compareOp .Eq) rEqLL := by
  constructor
  intro pins s σ H M x y d e v u Q I rm rx ry dx dy ⟨xs, ys, ha, hb, pa, pb, q⟩
  obtain ⟨a, zs, rfl, h1, h2⟩ := ha.sq rm dx
  obtain ⟨b, ws, rfl, h3, h4⟩ := hb.sq rm dy
  obtain rfl : v = Value.ref a := rx
  obtain rfl : u = Value.ref b := ry
  obtain ⟨its, rv, pl, hz⟩ := I.list h1
  obtain ⟨its2, rv2, pl2, hz2⟩ := I.list h3
  have l1 := h2.length.trans rv.length
  have l2 := h4.length.trans rv2.length
  have fin : ∀ k, k = eqDs xs ys → EP X pins σ (Post X.K M H Q) (.bool k) s := fun k e => ⟨.bl k, H, I, rfl, post_self rm (dat_bl.mpr rfl) (by rw [e]; exact q)⟩
  by_cases hs : its.toArray.size = its2.toArray.size
  · refine SeqAt.RcAt.lists (A := X.A) (s := s) (e := fun j => eqD (xs.getD j .non) (ys.getD j .non)) pl.isList pl2.isList hs (by omega) (parts_eq I.hok (n := 9) (by show X.A.units + 1 + 9 < cLine; omega) pa pb h2 h4 rv rv2) _ _ _ _ (fin _ ?_)
    simp only [List.size_toArray] at hs
    rw [eqDs_all, List.size_toArray, ← l1]
    have e : ys.length = xs.length := by omega
    rw [e, Nat.min_self, beq_self_eq_true, Bool.and_true]
  · refine SeqAt.RcAt.lists_lengths (A := X.A) (s := s) pl.isList pl2.isList (by simpa using hs) (by omega) _ _ _ _ (fin _ ?_)
    simp only [List.size_toArray] at hs
    exact (eqDs_len (by omega)).symm
def rListC : List D → Mp → DK → Prop := fun ds M Q => ∃ d xs, ds = [d] ∧ Lst M d xs ∧ ∀ p, M p = none → Q (.ref p) (updM M p (.lst xs))
theorem c_list : Call3 X (.type "list") rListC := call3 call_list_of fun H M xs ds Q rm dx ⟨d, ys, e1, hs, q⟩ => by
  subst e1
  obtain ⟨v, rfl, hv⟩ := dats1 dx
  obtain ⟨a, zs, rfl, h1, h2⟩ := hs.sq rm hv
  exact ⟨a, zs, rfl, .inl h1, fun p hp => ⟨.ref p, updM M p (.lst ys), Fr.new hp fun _ hb => updM_ne hb, dat_ref.mpr rfl, rm.newL hp h2, q p (rm.free hp)⟩⟩
def rTupC : List D → Mp → DK → Prop := fun ds M Q => ∃ d xs, ds = [d] ∧ Lst M d xs ∧ Q (.tup xs) M
theorem c_tuple : Call3 X (.type "tuple") rTupC := call3 call_tuple_of fun H M xs ds Q rm dx ⟨d, ys, e1, hs, q⟩ => by
  subst e1
  obtain ⟨v, rfl, hv⟩ := dats1 dx
  obtain ⟨a, zs, rfl, h1, h2⟩ := hs.sq rm hv
  exact ⟨a, zs, rfl, .inl ⟨h1, fun p hp => ⟨.tup ys, M, Fr.new hp fun _ _ => rfl, dat_tup.mpr ⟨p, zs, rfl, upd_same, Dats.mono (Ext.new hp) _ _ h2⟩, rm.new hp, q⟩⟩⟩
def tSlL (te : TE3) (tl th : TO3) : TE3 := fun ρ M Q => te ρ M fun d M1 => tl ρ M1 fun lo M2 => th ρ M2 fun hi M3 => ∃ xs, Lst M3 d xs ∧ ∀ p, M3 p = none → Q (.ref p) (updM M3 p (.lst (cutD xs lo hi)))
theorem q_sliceL {e : Expr} {lo hi : Option Expr} {te : TE3} {tl th : TO3} {p2 pos : Pos} (he : PE3 X e te) (hl : PO3 X lo tl) (hh : PO3 X hi th) : PE3 X (.Subscript e (.Slice lo hi none p2) pos) (tSlL te tl th) := by
  obtain ⟨tl2, pl, gl⟩ := hl.dn
  obtain ⟨th2, ph, gh⟩ := hh.dn
  refine up (pe_slice sl_list he.dn pl ph) fun σ H ρ M Q r q => dn_of r q fun v H' d M' f dv r' q1 => gl _ _ _ _ _ _ r' q1 fun lo H2 M2 f2 r2 q2 => gh _ _ _ _ _ _ r2 q2 fun hi H3 M3 f3 r3 ⟨xs, hL, q3⟩ => ?_
  obtain ⟨a, zs, rfl, hz, hd⟩ := hL.sq r3.mem (Dat.mono ((f2.trans f3).ext r'.mem) _ _ dv)
  have ec : cutD xs lo hi = (xs.drop (HT.sIx zs.length 0 lo)).take (HT.sIx zs.length zs.length hi - HT.sIx zs.length 0 lo) := by unfold cutD; rw [hd.length]
  refine ⟨a, zs, rfl, hz, fun p hp => ⟨.ref p, updM M3 p (.lst (cutD xs lo hi)), ((f.trans f2).trans f3).trans (Fr.new hp fun _ hb => updM_ne hb), dat_ref.mpr rfl, r3.mem.newL hp ?_, q3 p (r3.mem.free hp)⟩⟩
  rw [ec]
  exact Dats.take _ (Dats.drop _ hd)
end
end L3
namespace L3
open PySem PySem.Spec PyProof.Rows L2
theorem pls_at {ps : List Pl} {i : Nat} {x : D} (h : (ps.map Pl.d)[i]? = some x) : ∃ p, ps[i]? = some p ∧ x = p.d := by
  rw [List.getElem?_map] at h
  cases e : ps[i]? with
  | none => rw [e] at h; cases h
  | some p => rw [e] at h; exact ⟨p, rfl, (Option.some.inj h).symm⟩
theorem plain_ints (ns : List Int) : (ns.map D.int).all (plain 9) = true := by
  rw [List.all_eq_true]
  intro d hd
  obtain ⟨i, _, rfl⟩ := List.mem_map.mp hd
  rfl
theorem at_int {ns : List Int} {k : Int} (h0 : 0 ≤ k) (h1 : k < ns.length) : ∃ z : Int, z ∈ ns ∧ atI (ns.map D.int) k = some (.int z) := by
  obtain ⟨j, rfl⟩ : ∃ j : Nat, k = (j : Int) := ⟨k.toNat, by omega⟩
  have hlt : j < ns.length := by omega
  refine ⟨ns[j], List.getElem_mem hlt, atI_nat ?_⟩
  rw [List.getElem?_map, List.getElem?_eq_getElem hlt]
  rfl
theorem inD_pls {q : Pl} {ps : List Pl} : inD q.d (ps.map Pl.d) = decide (q ∈ ps) := by
  unfold inD
  rw [Bool.eq_iff_iff, List.any_eq_true, decide_eq_true_eq]
  constructor
  · rintro ⟨x, hx, e⟩
    obtain ⟨p, hp, rfl⟩ := List.mem_map.mp hx
    rw [eqD_Pl] at e
    rw [← of_decide_eq_true e]; exact hp
  · intro hq
    exact ⟨q.d, List.mem_map.mpr ⟨q, hq, rfl⟩, by rw [eqD_Pl]; exact decide_eq_true rfl⟩
theorem eqDs_refl {ds : List D} (h : ds.all (plain 9) = true) : eqDs ds ds = true := by
  have := eqD_refl 10 (.tup ds) h
  rwa [eqD_tup] at this
end L3
namespace L3
open PySem PySem.Spec PyProof.Rows L2
def lexP : List Pl → List Pl → Bool
  | [], [] => false
  | [], _ :: _ => true
  | _ :: _, [] => false
  | p :: ps, q :: qs => if p = q then lexP ps qs else decide (bef p q)
theorem lexP_irrefl : ∀ ps, lexP ps ps = false
  | [] => rfl
  | p :: ps => by unfold lexP; rw [if_pos rfl]; exact lexP_irrefl ps
theorem lexP_tri : ∀ ps qs, lexP ps qs = true ∨ ps = qs ∨ lexP qs ps = true
  | [], [] => .inr (.inl rfl)
  | [], _ :: _ => .inl rfl
  | _ :: _, [] => .inr (.inr rfl)
  | p :: ps, q :: qs => by
    unfold lexP
    by_cases e : p = q
    · subst e
      rw [if_pos rfl, if_pos rfl]
      rcases lexP_tri ps qs with h | h | h
      · exact .inl h
      · exact .inr (.inl (by rw [h]))
      · exact .inr (.inr h)
    · rw [if_neg e, if_neg (Ne.symm e)]
      rcases bef_or e with h | h
      · exact .inl (decide_eq_true h)
      · exact .inr (.inr (decide_eq_true h))
theorem lexP_trans : ∀ ps qs rs, lexP ps qs = true → lexP qs rs = true → lexP ps rs = true
  | [], [], _, h, _ => by cases h
  | [], _ :: _, [], _, h => by cases h
  | [], _ :: _, _ :: _, _, _ => rfl
  | _ :: _, [], _, h, _ => by cases h
  | _ :: _, _ :: _, [], _, h => by cases h
  | p :: ps, q :: qs, r :: rs, h1, h2 => by
    unfold lexP at *
    by_cases e1 : p = q
    · subst e1
      rw [if_pos rfl] at h1
      by_cases e2 : p = r
      · rw [if_pos e2] at h2 ⊢; exact lexP_trans ps qs rs h1 h2
      · rw [if_neg e2] at h2 ⊢; exact h2
    · rw [if_neg e1] at h1
      have b1 := of_decide_eq_true h1
      by_cases e2 : q = r
      · subst e2; rw [if_neg e1]; exact h1
      · rw [if_neg e2] at h2
        have b3 := bef_trans b1 (of_decide_eq_true h2)
        rw [if_neg (bef_ne b3)]
        exact decide_eq_true b3
def AtN (n : Nat) (h : Heap) (v : Value) (ps : List Pl) : Prop := ps.length = n ∧ ∃ (a : Addr) (o : Obj) (its : List Value) (m : Nat), v = .ref a ∧ h.get? a = some o ∧ o.cls = .type "tuple" ∧ o.data = .seq its.toArray m ∧ PlsAt h its ps
theorem PlsAt.grow {h h' : Heap} (g : Grow h h') : ∀ {us : List Value} {ps : List Pl}, PlsAt h us ps → PlsAt h' us ps
  | _, _, .nil => .nil
  | _, _, .cons a r => .cons (a.grow g) (PlsAt.grow g r)
theorem AtN.grow {n : Nat} {h h' : Heap} {v : Value} {ps : List Pl} (a : AtN n h v ps) (g : Grow h h') : AtN n h' v ps := by
  obtain ⟨hl, b, o, its, m, h1, h2, h3, h4, h5⟩ := a
  exact ⟨hl, b, o, its, m, h1, g _ _ h2, h3, h4, h5.grow g⟩
theorem AtN.inj {n : Nat} {h : Heap} {v : Value} {ps qs : List Pl} (a : AtN n h v ps) (b : AtN n h v qs) : ps = qs := by
  obtain ⟨_, a1, o, its, m, rfl, h2, h3, h4, h5⟩ := a
  obtain ⟨_, a2, o', its', m', e, k2, k3, k4, k5⟩ := b
  injection e with e
  subst e
  rw [h2] at k2
  injection k2 with k2
  subst k2
  rw [h4] at k4
  injection k4 with k4 _
  have k4 : its = its' := by simpa using k4
  subst k4
  rw [← h5.keys, ← k5.keys]
open Classical in
noncomputable def kPs (n : Nat) (h : Heap) : KeyKind where
  α := List Pl
  blt p q := lexP p q
  irrefl p := lexP_irrefl p
  trans p q r a b := lexP_trans p q r a b
  negTrans p q r a := by
    rcases lexP_tri p q with c | c | c
    · exact .inl c
    · subst c; exact .inr a
    · exact .inr (lexP_trans _ _ _ c a)
  total p q a b := by
    rcases lexP_tri p q with c | c | c
    · rw [a] at c; cases c
    · exact c
    · rw [b] at c; cases c
  keyOf v := if e : ∃ p, AtN n h v p then some e.choose else none
  dflt := []
open Classical in
theorem kPs_key {n : Nat} {h : Heap} {v : Value} {p : List Pl} (a : AtN n h v p) : (kPs n h).keyOf v = some p := by
  have e : ∃ p, AtN n h v p := ⟨p, a⟩
  show (if e : ∃ p, AtN n h v p then some e.choose else none) = some p
  rw [dif_pos e, AtN.inj e.choose_spec a]
open Classical in
theorem kPs_of {n : Nat} {h : Heap} {v : Value} {p : List Pl} (a : (kPs n h).keyOf v = some p) : AtN n h v p := by
  have a : (if e : ∃ p, AtN n h v p then some e.choose else none) = some p := a
  by_cases e : ∃ p, AtN n h v p
  · rw [dif_pos e] at a
    have := e.choose_spec
    rwa [Option.some.inj a] at this
  · rw [dif_neg e] at a; cases a
section
variable {P : Program} {w : World} {A : Around} {E : Value → Shared → Prop} {s : Shared}
theorem eqb_pl {u v : Value} {p q : Pl} {Q : Bool → Shared → Prop} (hu : A.units < cLine) (a : At2 s.heap u p) (b : At2 s.heap v q) (h : Q (decide (p = q)) s) : wpAny (model P w) A (eqBool u v) Q E s := by
  obtain ⟨a1, o1, t1, u1, n1, rfl, h2, h3, h4⟩ := a
  obtain ⟨a2, o2, t2, u2, n2, rfl, k2, k3, k4⟩ := b
  refine wpAny_eqBool_tuple (knd := intKind P w) (x := [p.x, p.y]) (y := [q.x, q.y]) hu ⟨o1, _, n1, h2, h3, h4, ?_⟩ ⟨o2, _, n2, k2, k3, k4, ?_⟩ ?_
  · exact .cons (by simp [intKind, Value.isInt]) (.cons (by simp [intKind, Value.isInt]) .nil)
  · exact .cons (by simp [intKind, Value.isInt]) (.cons (by simp [intKind, Value.isInt]) .nil)
  · have e : decide ([p.x, p.y] = [q.x, q.y]) = decide (p = q) := by
      rw [decide_eq_decide]
      cases p; cases q
      simp
    rw [e]; exact h
theorem oneLt_pl {u v : Value} {p q : Pl} {Q : Bool → Shared → Prop} (hu : A.units < cLine) (a : At2 s.heap u p) (b : At2 s.heap v q) (h : Q (decide (bef p q)) s) : wpAny (model P w) A (oneLt' false u v) Q E s := by
  obtain ⟨l, its, rfl, h1, h2⟩ := a.tup
  obtain ⟨l', its', rfl, k1, k2⟩ := b.tup
  rw [oneLt'_eq]
  simp only [Bool.false_eq_true, if_false]
  apply wpAny_bind
  refine (HT.lt_tupInts h1 k1 h2 k2 hu ?_ : wpAny (model P w) A (compareOp .Lt (.ref l) (.ref l')) _ E s)
  refine wpAny_truthy_bool ?_
  rw [lex_bef]
  exact h
theorem PlsAt.cons_inv {h : Heap} {us : List Value} {p : Pl} {ps : List Pl} (a : PlsAt h us (p :: ps)) : ∃ u vs, us = u :: vs ∧ At2 h u p ∧ PlsAt h vs ps := by
  cases a with
  | cons a r => exact ⟨_, _, rfl, a, r⟩
theorem PlsAt.nil_inv {h : Heap} {us : List Value} (a : PlsAt h us []) : us = [] := by
  cases a
  rfl
theorem two_of {α : Type} {qs : List α} (h : qs.length = 2) : ∃ u v, qs = [u, v] := by
  match qs, h with
  | [u, v], _ => exact ⟨u, v, rfl⟩
theorem lt_ps {n : Nat} (hn : n = 2 ∨ n = 3) {t : Shared} {x y : Value} {ps qs : List Pl} {R : Bool → Shared → Prop} (hu : A.units < cLine) (kx : AtN n t.heap x ps) (ky : AtN n t.heap y qs) (hR : R (lexP ps qs) t) : wpAny (model P w) A (keyLt' (tuples' false) x y) R E t := by
  obtain ⟨l1, a, o, its, m, rfl, h2, h3, h4, h5⟩ := kx
  obtain ⟨l2, b, o', its', m', rfl, k2, k3, k4, k5⟩ := ky
  rw [keyLt_tup]
  apply wpAny_bind; apply listItems_at h2 h4
  apply wpAny_bind; apply listItems_at k2 k4
  rcases hn with rfl | rfl
  · obtain ⟨p1, p2, rfl⟩ := two_of l1
    obtain ⟨q1, q2, rfl⟩ := two_of l2
    obtain ⟨u1, us, rfl, a1, h5⟩ := h5.cons_inv
    obtain ⟨u2, us, rfl, a2, h5⟩ := h5.cons_inv
    obtain rfl := h5.nil_inv
    obtain ⟨v1, vs, rfl, b1, k5⟩ := k5.cons_inv
    obtain ⟨v2, vs, rfl, b2, k5⟩ := k5.cons_inv
    obtain rfl := k5.nil_inv
    · clear h2 h4 k2 k4 h3 k3
      simp only [List.toList_toArray, List.zip_cons_cons, List.zip_nil_right, List.zipIdx_cons, List.zipIdx_nil, List.forIn_cons, List.forIn_nil, bind_assoc, Bool.false_and]
      apply wpAny_bind
      refine eqb_pl hu a1 b1 ?_
      unfold lexP at hR
      by_cases e1 : p1 = q1
      · rw [if_pos e1] at hR
        rw [decide_eq_true e1]
        simp only [Bool.not_true, Bool.false_eq_true, if_false, pure_bind, bind_assoc]
        apply wpAny_bind
        refine eqb_pl hu a2 b2 ?_
        unfold lexP at hR
        by_cases e2 : p2 = q2
        · rw [if_pos e2] at hR
          rw [decide_eq_true e2]
          simp only [Bool.not_true, Bool.false_eq_true, if_false, pure_bind]
          exact wpAny_pure hR
        · rw [if_neg e2] at hR
          rw [decide_eq_false e2]
          simp only [Bool.not_false, if_true, bind_assoc, pure_bind]
          apply wpAny_bind
          exact oneLt_pl hu a2 b2 (wpAny_pure hR)
      · rw [if_neg e1] at hR
        rw [decide_eq_false e1]
        simp only [Bool.not_false, if_true, bind_assoc, pure_bind]
        apply wpAny_bind
        exact oneLt_pl hu a1 b1 (wpAny_pure hR)
  · obtain ⟨p1, p2, p3, rfl⟩ := three_of l1
    obtain ⟨q1, q2, q3, rfl⟩ := three_of l2
    obtain ⟨u1, us, rfl, a1, h5⟩ := h5.cons_inv
    obtain ⟨u2, us, rfl, a2, h5⟩ := h5.cons_inv
    obtain ⟨u3, us, rfl, a3, h5⟩ := h5.cons_inv
    obtain rfl := h5.nil_inv
    obtain ⟨v1, vs, rfl, b1, k5⟩ := k5.cons_inv
    obtain ⟨v2, vs, rfl, b2, k5⟩ := k5.cons_inv
    obtain ⟨v3, vs, rfl, b3, k5⟩ := k5.cons_inv
    obtain rfl := k5.nil_inv
    · clear h2 h4 k2 k4 h3 k3
      simp only [List.toList_toArray, List.zip_cons_cons, List.zip_nil_right, List.zipIdx_cons, List.zipIdx_nil, List.forIn_cons, List.forIn_nil, bind_assoc, Bool.false_and]
      apply wpAny_bind
      refine eqb_pl hu a1 b1 ?_
      unfold lexP at hR
      by_cases e1 : p1 = q1
      · rw [if_pos e1] at hR
        rw [decide_eq_true e1]
        simp only [Bool.not_true, Bool.false_eq_true, if_false, pure_bind, bind_assoc]
        apply wpAny_bind
        refine eqb_pl hu a2 b2 ?_
        unfold lexP at hR
        by_cases e2 : p2 = q2
        · rw [if_pos e2] at hR
          rw [decide_eq_true e2]
          simp only [Bool.not_true, Bool.false_eq_true, if_false, pure_bind, bind_assoc]
          apply wpAny_bind
          refine eqb_pl hu a3 b3 ?_
          unfold lexP at hR
          by_cases e3 : p3 = q3
          · rw [if_pos e3] at hR
            rw [decide_eq_true e3]
            simp only [Bool.not_true, Bool.false_eq_true, if_false, pure_bind]
            exact wpAny_pure hR
          · rw [if_neg e3] at hR
            rw [decide_eq_false e3]
            simp only [Bool.not_false, if_true, bind_assoc, pure_bind]
            apply wpAny_bind
            exact oneLt_pl hu a3 b3 (wpAny_pure hR)
        · rw [if_neg e2] at hR
          rw [decide_eq_false e2]
          simp only [Bool.not_false, if_true, bind_assoc, pure_bind]
          apply wpAny_bind
          exact oneLt_pl hu a2 b2 (wpAny_pure hR)
      · rw [if_neg e1] at hR
        rw [decide_eq_false e1]
        simp only [Bool.not_false, if_true, bind_assoc, pure_bind]
        apply wpAny_bind
        exact oneLt_pl hu a1 b1 (wpAny_pure hR)
theorem ask_ps {n : Nat} (hn : n = 2 ∨ n = 3) (hu : A.units < cLine) {h : Heap} {t : Shared} (g : Grow h t.heap) : Ask P w A t (kPs n h) (tuples' false) :=
  ⟨fun E x y p q R kx ky hR => lt_ps hn hu ((kPs_of kx).grow g) ((kPs_of ky).grow g) hR⟩
theorem kind_ps {n : Nat} (hn : n = 2 ∨ n = 3) {vs : List Value} (h2 : 1 ≤ vs.length) (hv : ∀ v ∈ vs, ∃ p, AtN n s.heap v p) {Q : SortKind → Shared → Prop} (h : Q (tuples' false) s) : wpAny (model P w) A (keyKind' vs.toArray) Q E s := by
  rw [keyKind'_eq, List.mapM_toArray]
  simp only [bind_map_left]
  apply wpAny_bind
  refine wp_mapM (fun _ b => ∃ u p, b = some u ∧ At2 s.heap u p) vs _ (fun v hm Q hQ => ?_) fun bs hb => ?_
  · obtain ⟨ps, hl, a, o, its, m, rfl, k2, k3, k4, k5⟩ := hv v hm
    rw [first_tup]
    apply wpAny_bind
    refine wpAny_typeOf (T := "tuple") ⟨o, k2, k3⟩ ?_
    have e : (Value.type "tuple" != Value.type "tuple") = false := by decide
    rw [e]
    simp only [Bool.false_eq_true, if_false, pure_bind]
    apply wpAny_bind; apply listItems_at k2 k4
    cases ps with
    | nil => simp at hl; omega
    | cons p ps =>
      obtain ⟨u, us, rfl, a, _⟩ := k5.cons_inv
      exact wpAny_pure (hQ _ ⟨u, p, rfl, a⟩)
  · have all : ∀ (vs : List Value) (bs : List (Option Value)), Paired (fun _ b => ∃ u p, b = some u ∧ At2 s.heap u p) vs bs → bs.length = vs.length ∧ (∀ b ∈ bs, ∃ u p, b = some u ∧ At2 s.heap u p) := by
      intro vs
      induction vs with
      | nil => intro bs q; cases q; exact ⟨rfl, fun _ z => by cases z⟩
      | cons v vs ih =>
        intro bs q
        cases q with
        | cons q1 q2 =>
          obtain ⟨l, m⟩ := ih _ q2
          refine ⟨by simp [l], fun b hb => ?_⟩
          rcases List.mem_cons.mp hb with rfl | hb
          · exact q1
          · exact m b hb
    obtain ⟨hl, hm⟩ := all vs bs hb
    have c : (bs.toArray.all fun b => b.isSome) = true := by
      simp only [List.all_toArray, List.all_eq_true]
      intro b hb
      obtain ⟨u, p, rfl, _⟩ := hm b hb
      rfl
    rw [if_pos c]
    apply wpAny_bind; apply wpAny_rule
    rw [oneTypeOnly'_eq]
    have ef : bs.toArray.filterMap id = (bs.filterMap id).toArray := by simp
    rw [ef, List.mapM_toArray]
    simp only [bind_map_left, bind_assoc]
    apply wpAny_bind
    refine wp_mapM (fun _ b => b = Value.type "tuple") _ _ (fun v hv' Q hQ => ?_) fun cs hc => ?_
    · obtain ⟨b, hb1, hb2⟩ := List.mem_filterMap.mp hv'
      obtain ⟨u, p, rfl, a, o, t, u', m, rfl, k2, k3, k4⟩ := hm b hb1
      have hb2 : some (Value.ref a) = some v := hb2
      cases hb2
      exact wpAny_typeOf (T := "tuple") ⟨o, k2, k3⟩ (hQ _ rfl)
    · have len : 1 ≤ (bs.filterMap id).length := by
        cases bs with
        | nil => simp at hl; omega
        | cons b bs =>
          obtain ⟨u, p, rfl, _⟩ := hm b (List.mem_cons_self ..)
          simp
      have all2 : ∀ (us cs : List Value), Paired (fun _ b => b = Value.type "tuple") us cs → cs = us.map fun _ => Value.type "tuple" := by
        intro us
        induction us with
        | nil => intro cs q; cases q; rfl
        | cons u us ih => intro cs q; cases q with | cons q1 q2 => rw [q1, ih _ q2]; rfl
      rw [all2 _ _ hc]
      generalize bs.filterMap id = us at len
      cases us with
      | nil => simp at len
      | cons u us =>
        have e0 : (List.map (fun _ => Value.type "tuple") (u :: us)).toArray[0]? = some (Value.type "tuple") := by simp
        rw [e0]
        have e1 : ((List.map (fun _ => Value.type "tuple") (u :: us)).toArray.all fun x => x == Value.type "tuple") = true := by
          simp only [List.all_toArray, List.all_map, List.all_eq_true]
          intro _ _; rfl
        simp only [e1, if_true, pure_bind]
        exact wpAny_pure h
end
noncomputable def tkey (n : Nat) (h : Heap) (v : Value) : List Pl := Option.getD (α := List Pl) ((kPs n h).keyOf v) []
theorem tkey_at {n : Nat} {h : Heap} {v : Value} {p : List Pl} (a : AtN n h v p) : tkey n h v = p := by
  unfold tkey
  have e : (kPs n h).keyOf v = some p := kPs_key a
  exact congrArg (fun o => Option.getD (α := List Pl) o []) e
def TupsAt (n : Nat) (h : Heap) : List Value → List (List Pl) → Prop := Paired (AtN n h)
theorem TupsAt.keys {n : Nat} {h : Heap} : ∀ {us : List Value} {ps : List (List Pl)}, TupsAt n h us ps → us.map (tkey n h) = ps
  | _, _, .nil => rfl
  | _, _, .cons a r => by rw [List.map_cons, tkey_at a, TupsAt.keys r]
theorem TupsAt.mem {n : Nat} {h : Heap} : ∀ {us : List Value} {ps : List (List Pl)} {v : Value}, TupsAt n h us ps → v ∈ us → ∃ p, AtN n h v p
  | _, _, v, .nil, m => by cases m
  | _, _, v, .cons a r, m => by
    rcases List.mem_cons.mp m with rfl | m
    · exact ⟨_, a⟩
    · exact TupsAt.mem r m
theorem sorted_tups {n : Nat} (hn : n = 2 ∨ n = 3) {P : Program} {w : World} {A : Around} {E : Value → Shared → Prop} {s : Shared} {l : Addr} {vs : List Value} {ps : List (List Pl)} {Q : Value → Shared → Prop} (hu : A.units + 64 < cLine) (hl : s.heap.IsList l vs.toArray) (hv : TupsAt n s.heap vs ps) (h64 : vs.length < 64)
    (h : ∀ (out : List Value) (qs : List (List Pl)), (∀ v ∈ out, v ∈ vs) → qs = out.map (tkey n s.heap) → qs.Perm ps → qs.Pairwise (fun p q => lexP q p = false) → Q (.ref (s.heap.objs.size + 1)) { s with heap := sortedAll s.heap vs out.toArray }) :
    wpAny (model P w) A (call (.builtin "sorted") [.ref l]) Q E s := by
  have hk : KeysOf (kPs n s.heap) (pairsOf vs) := fun p hp => by
    rw [pairsOf_toList] at hp
    obtain ⟨q, a⟩ := hv.mem (zip_self_mem hp).2
    exact ⟨q, kPs_key a⟩
  refine sorted_by (κ := kPs n s.heap) (kd := tuples' false) hl hk (fun t E Q g h2 q => kind_ps hn (by omega) (fun v m => ?_) q) (fun t g => ask_ps hn (by show A.units + 1 + 1 < cLine; omega) g) h64 fun y hp hs => ?_
  · obtain ⟨p, a⟩ := hv.mem m
    exact ⟨p, a.grow g⟩
  · have pl : y.toList.Perm (vs.zip vs) := by rw [← pairsOf_toList]; exact Array.perm_iff_toList_perm.mp hp
    have same : ∀ p ∈ y.toList, p.1 = p.2 ∧ p.1 ∈ vs := fun p m => zip_self_mem (pl.mem_iff.mp m)
    have eo : y.map (·.2) = (y.toList.map (·.2)).toArray := by rw [← Array.toList_map, Array.toArray_toList]
    rw [eo]
    refine h (y.toList.map (·.2)) _ (fun v m => ?_) rfl ?_ ?_
    · obtain ⟨p, m2, rfl⟩ := List.mem_map.mp m
      rw [← (same p m2).1]; exact (same p m2).2
    · have q := (pl.map (fun p => p.2)).map (tkey n s.heap)
      have e : (vs.zip vs).map (fun p => p.2) = vs := List.map_snd_zip (Nat.le_refl _)
      rw [e, hv.keys] at q
      exact q
    · rw [List.pairwise_iff_getElem]
      intro i j hi hj hij
      have li : i < y.size := by simpa using hi
      have lj : j < y.size := by simpa using hj
      have q := hs i j (Nat.le_of_lt hij) (by rw [← hp.size_eq]; exact lj)
      have key : ∀ k (hk : k < y.size), KK (kPs n s.heap) y k = tkey n s.heap y[k].2 := fun k hk => by
        unfold KK
        rw [getElem?_pos y k hk]
        show Option.getD (α := List Pl) ((kPs n s.heap).keyOf y[k].1) [] = _
        rw [(same y[k] (by simp)).1]
        rfl
      have q : (kPs n s.heap).blt (KK (kPs n s.heap) y j) (KK (kPs n s.heap) y i) = false := q
      rw [key i li, key j lj] at q
      have q : lexP (tkey n s.heap y[j].2) (tkey n s.heap y[i].2) = false := q
      simpa using q
def tD (ps : List Pl) : D := .tup (ps.map Pl.d)
theorem atN_of {n : Nat} {P : Program} {w : World} {K : PySem.W.Frag} {H : Hp} {h : Heap} {ps : List Pl} {x : V} {u : Value} (ok : HOk P w H h) (hl : ps.length = n) (d : Dat K H (tD ps) x) (r : RelV x u) : AtN n h u ps := by
  obtain ⟨a, xs, rfl, ha, hx⟩ := dat_tup.mp d
  obtain rfl : u = Value.ref a := r
  obtain ⟨its, rv, ⟨o, h1, h2, m, h3⟩, _⟩ := tup_at ok ha
  exact ⟨hl, a, o, its, m, rfl, h1, h2, h3, plsAt_of ok hx rv⟩
theorem tupsAt_of {n : Nat} {P : Program} {w : World} {K : PySem.W.Frag} {H : Hp} {h : Heap} (ok : HOk P w H h) : ∀ {ps : List (List Pl)} {xs : List V} {us : List Value}, (∀ p ∈ ps, p.length = n) → Dats K H (ps.map tD) xs → Vals xs us → TupsAt n h us ps
  | [], xs, us, _, d, r => by rw [dats_nil.mp d] at r; cases r; exact .nil
  | p :: ps, xs, us, hl, d, r => by
    obtain ⟨v, vs, rfl, d1, d2⟩ := dats_cons.mp d
    cases r with
    | cons r1 r2 => exact .cons (atN_of ok (hl p (List.mem_cons_self ..)) d1 r1) (tupsAt_of ok (fun q hq => hl q (List.mem_cons_of_mem _ hq)) d2 r2)
theorem dats_pickT {n : Nat} {K : PySem.W.Frag} {H : Hp} {h : Heap} {P : Program} {w : World} (ok : HOk P w H h) {ps : List (List Pl)} {zs : List V} {vs : List Value} (hl : ∀ p ∈ ps, p.length = n) (d : Dats K H (ps.map tD) zs) (r : Vals zs vs) : ∀ (out : List Value), (∀ v ∈ out, v ∈ vs) →
    ∃ ws, Vals ws out ∧ Dats K H ((out.map (tkey n h)).map tD) ws
  | [], _ => ⟨[], .nil, dats_nil.mpr rfl⟩
  | v :: out, m => by
    obtain ⟨ws, h1, h2⟩ := dats_pickT ok hl d r out fun u hu => m u (List.mem_cons_of_mem _ hu)
    have one : ∀ {ps : List (List Pl)} {zs : List V} {vs : List Value}, (∀ p ∈ ps, p.length = n) → Dats K H (ps.map tD) zs → Vals zs vs → v ∈ vs → ∃ (p : List Pl) (x : V), p.length = n ∧ RelV x v ∧ Dat K H (tD p) x := by
      intro ps
      induction ps with
      | nil => intro zs vs _ d r m; rw [dats_nil.mp d] at r; cases r; cases m
      | cons p ps ih =>
        intro zs vs hl d r m
        obtain ⟨x, xs, rfl, d1, d2⟩ := dats_cons.mp d
        cases r with
        | cons r1 r2 =>
          rcases List.mem_cons.mp m with rfl | m
          · exact ⟨p, x, hl p (List.mem_cons_self ..), r1, d1⟩
          · exact ih (fun q hq => hl q (List.mem_cons_of_mem _ hq)) d2 r2 m
    obtain ⟨p, x, lp, rx, dx⟩ := one hl d r (m v (List.mem_cons_self ..))
    refine ⟨x :: ws, .cons rx h1, ?_⟩
    rw [List.map_cons, List.map_cons, tkey_at (atN_of ok lp dx rx)]
    exact dats_cons.mpr ⟨x, ws, rfl, dx, h2⟩
section
variable {X : Cx}
def rSortedT (n : Nat) : List D → Mp → DK → Prop := fun ds M Q => ∃ (l : Addr) (ps : List (List Pl)), ds = [.ref l] ∧ M l = some (.lst (ps.map tD)) ∧ (∀ p ∈ ps, p.length = n) ∧ ps.length < 64 ∧ ∀ (p : Addr) (qs : List (List Pl)), M p = none → qs.Perm ps → qs.Pairwise (fun p q => lexP q p = false) → Q (.ref p) (updM M p (.lst (qs.map tD)))
theorem c_sortedT {n : Nat} (hn : n = 2 ∨ n = 3) (hu : X.A.units + 64 < cLine) : Call3 X (.builtin "sorted") (rSortedT n) := by
  constructor
  intro pins s σ H M xs ds us Q I rm rs dx ⟨l, ps, e, hM, hln, h64, q⟩
  subst e
  obtain ⟨v, rfl, hv⟩ := dats1 dx
  obtain rfl := dat_ref.mp hv
  obtain ⟨u, rfl, r1⟩ := vals1 rs
  obtain rfl : u = Value.ref l := r1
  obtain ⟨zs, hH, hz⟩ := rm.lst hM
  obtain ⟨its, rv, pl, hsz⟩ := I.list (SqL.of (K := X.K) hH)
  have hl : its.length = ps.length := by rw [Vals.len rv, ← hz.length, List.length_map]
  refine sorted_tups hn hu pl.isList (tupsAt_of I.hok hln hz rv) (by omega) fun out qs hm eq hp hs => ?_
  obtain ⟨ws, w1, w2⟩ := dats_pickT I.hok hln hz rv out hm
  rw [← eq] at w2
  obtain ⟨m, hm'⟩ := sortedAll_at s.heap its out.toArray
  have fr : H (s.heap.objs.size + 1) = none := I.hok.fresh (Nat.le_succ _)
  have zw : ws.length ≤ sizeLine := by
    rw [← w2.length, List.length_map, hp.length_eq, sizeLine_eq]; omega
  refine ⟨.ref (s.heap.objs.size + 1), upd H (s.heap.objs.size + 1) (.lst ws), I.laid (t' := s.toks) (fun b o e => sortedAll_old e) (Nat.le_succ _) ⟨zw, out, m, w1, hm'⟩, rfl, .ref _, updM M _ (.lst (qs.map tD)), Fr.new fr fun _ hb => updM_ne hb, dat_ref.mpr rfl, rm.newL fr w2, q _ _ (rm.free fr) hp hs⟩
end
end L3
namespace L3
open PySem
def IsTri (t : List Pl) : Prop := ∃ u v w, t = [u, v, w] ∧ bef u v ∧ bef u w ∧ 0 < tw u v w
theorem IsTri.uniq {s t : List Pl} (hs : IsTri s) (ht : IsTri t) (h : s.Perm t) : s = t := by
  obtain ⟨u, v, w, rfl, b1, b2, p1⟩ := hs
  obtain ⟨a, b, c, rfl, c1, c2, p2⟩ := ht
  rcases perm3 h with ⟨rfl, rfl, rfl⟩ | ⟨rfl, rfl, rfl⟩ | ⟨rfl, rfl, rfl⟩ | ⟨rfl, rfl, rfl⟩ | ⟨rfl, rfl, rfl⟩ | ⟨rfl, rfl, rfl⟩
  · rfl
  · rw [tw_swap2] at p2; omega
  · exact absurd c1 (bef_asymm b1)
  · exact absurd c1 (bef_asymm b2)
  · exact absurd c2 (bef_asymm b1)
  · exact absurd c2 (bef_asymm b2)
theorem tw_ne {a b c : Pl} (h : tw a b c ≠ 0) : a ≠ b ∧ a ≠ c ∧ b ≠ c :=
  ⟨fun e => by subst e; rw [tw_same1] at h; exact h rfl, fun e => by subst e; rw [tw_same3] at h; exact h rfl, fun e => by subst e; rw [tw_same2] at h; exact h rfl⟩
def rot3 (a b c : Pl) : List Pl := if bef a b ∧ bef a c then [a, b, c] else if bef b c then [b, c, a] else [c, a, b]
theorem rot3_is {a b c : Pl} (h : 0 < tw a b c) : IsTri (rot3 a b c) ∧ (rot3 a b c).Perm [a, b, c] := by
  obtain ⟨n1, n2, n3⟩ := tw_ne (show tw a b c ≠ 0 by omega)
  unfold rot3
  by_cases k : bef a b ∧ bef a c
  · rw [if_pos k]
    exact ⟨⟨a, b, c, rfl, k.1, k.2, h⟩, .refl _⟩
  · rw [if_neg k]
    by_cases k2 : bef b c
    · rw [if_pos k2]
      refine ⟨⟨b, c, a, rfl, k2, ?_, by rw [tw_rot]; exact h⟩, (List.perm_append_comm (l₁ := [b, c]) (l₂ := [a]))⟩
      rcases bef_or n1 with z | z
      · exact absurd ⟨z, bef_trans z k2⟩ k
      · exact z
    · rw [if_neg k2]
      have cb : bef c b := by rcases bef_or n3 with z | z; exact absurd z k2; exact z
      have ca : bef c a := by
        rcases bef_or n2 with z | z
        · exact absurd ⟨bef_trans z cb, z⟩ k
        · exact z
      exact ⟨⟨c, a, b, rfl, ca, cb, by rw [← tw_rot c a b]; exact h⟩, (List.perm_append_comm (l₁ := [c]) (l₂ := [a, b]))⟩
def trg (a b c : Pl) : List Pl := if 0 < tw a b c then rot3 a b c else rot3 a c b
theorem trg_is {a b c : Pl} (h : tw a b c ≠ 0) : IsTri (trg a b c) ∧ (trg a b c).Perm [a, b, c] := by
  unfold trg
  by_cases k : 0 < tw a b c
  · rw [if_pos k]; exact rot3_is k
  · rw [if_neg k]
    obtain ⟨h1, h2⟩ := rot3_is (a := a) (b := c) (c := b) (by rw [tw_swap2]; omega)
    exact ⟨h1, h2.trans (.cons a (.swap b c []))⟩
theorem tw_perm {u v w a b c : Pl} (h : [u, v, w].Perm [a, b, c]) : tw u v w ≠ 0 ↔ tw a b c ≠ 0 := by
  rcases perm3 h with ⟨rfl, rfl, rfl⟩ | ⟨rfl, rfl, rfl⟩ | ⟨rfl, rfl, rfl⟩ | ⟨rfl, rfl, rfl⟩ | ⟨rfl, rfl, rfl⟩ | ⟨rfl, rfl, rfl⟩
  · exact Iff.rfl
  · rw [tw_swap2 u v w]; omega
  · rw [tw_swap u v w]; omega
  · rw [tw_rot w u v]
  · rw [← tw_rot u v w]
  · rw [tw_swap v w u, tw_rot u v w]; omega
theorem trg_perm {t : List Pl} {a b c : Pl} (ht : IsTri t) (h : t.Perm [a, b, c]) : tw a b c ≠ 0 ∧ t = trg a b c := by
  have hn : tw a b c ≠ 0 := by
    obtain ⟨u, v, w, rfl, _, _, p⟩ := ht
    exact (tw_perm h).mp (by omega)
  obtain ⟨h1, h2⟩ := trg_is hn
  exact ⟨hn, ht.uniq h1 (h.trans h2.symm)⟩
theorem trg_sorted {a b c u v w : Pl} (hn : tw a b c ≠ 0) (hp : [u, v, w].Perm [a, b, c]) (hs : [u, v, w].Pairwise (fun p q => ¬ bef q p)) :
    trg a b c = if 0 < tw u v w then [u, v, w] else [u, w, v] := by
  have hn2 : tw u v w ≠ 0 := (tw_perm hp).mpr hn
  obtain ⟨n1, n2, n3⟩ := tw_ne hn2
  have b1 : bef u v := by rcases bef_or n1 with z | z; exact z; exact absurd z ((List.pairwise_cons.mp hs).1 v (by simp))
  have b2 : bef u w := by rcases bef_or n2 with z | z; exact z; exact absurd z ((List.pairwise_cons.mp hs).1 w (by simp))
  by_cases k : 0 < tw u v w
  · rw [if_pos k]
    exact (trg_perm ⟨u, v, w, rfl, b1, b2, k⟩ hp).2.symm
  · rw [if_neg k]
    exact (trg_perm ⟨u, w, v, rfl, b2, b1, by rw [tw_swap2]; omega⟩ ((List.Perm.cons u (.swap v w [])).trans hp)).2.symm
def gp (ps : List Pl) (i : Nat) : Pl := ps.getD i ⟨0, 0⟩
def one (ok : List Pl → Bool) (a b c : Pl) : List (List Pl) := if tw a b c ≠ 0 ∧ ok (trg a b c) = true then [trg a b c] else []
def yes : List Pl → Bool := fun _ => true
def T1 (ps : List Pl) (k m n : Nat) : List (List Pl) := (List.range n).flatMap fun j => one yes (gp ps k) (gp ps m) (gp ps j)
def c2 : Nat → Nat | 0 => 0 | m + 1 => c2 m + m
def c3 : Nat → Nat | 0 => 0 | k + 1 => c3 k + c2 k
def U1 (ok : List Pl → Bool) (rs : List Pl) (i j n : Nat) : List (List Pl) := (List.range n).flatMap fun l => one ok (gp rs i) (gp rs j) (gp rs (j + 1 + l))
def U2 (ok : List Pl → Bool) (rs : List Pl) (i n : Nat) : List (List Pl) := (List.range n).flatMap fun j => U1 ok rs i (i + 1 + j) (rs.length - (i + 1 + j + 1))
end L3
namespace L3
open PySem PySem.Spec PyProof.Rows L2
theorem tsign1 {u v w : Pl} (k : eqD (.int (tw u v w).sign) (.int 1) = true) : 0 < tw u v w := by
  rw [eqD_int] at k
  exact Int.sign_eq_one_iff_pos.mp (eq_of_beq k)
theorem tsign1n {u v w : Pl} (k : ¬ eqD (.int (tw u v w).sign) (.int 1) = true) : ¬ 0 < tw u v w := fun z => by
  apply k
  rw [eqD_int, Int.sign_eq_one_of_pos z]
  rfl
theorem trs_at {ts : List (List Pl)} {i : Nat} {x : D} (h : (ts.map tD)[i]? = some x) : ∃ t, ts[i]? = some t ∧ x = tD t := by
  rw [List.getElem?_map] at h
  cases e : ts[i]? with
  | none => rw [e] at h; cases h
  | some p => rw [e] at h; exact ⟨p, rfl, (Option.some.inj h).symm⟩
theorem sorted_uniq : ∀ {as bs : List (List Pl)}, as.Perm bs → as.Pairwise (fun a b => lexP b a = false) → bs.Pairwise (fun a b => lexP b a = false) → as = bs
  | [], bs, h, _, _ => by rw [List.nil_perm.mp h]
  | a :: as, [], h, _, _ => by simp at h
  | a :: as, b :: bs, h, h1, h2 => by
    obtain ⟨p1, p2⟩ := List.pairwise_cons.mp h1
    obtain ⟨q1, q2⟩ := List.pairwise_cons.mp h2
    have e : a = b := by
      have ma : a ∈ b :: bs := h.mem_iff.mp (List.mem_cons_self ..)
      have mb : b ∈ a :: as := h.mem_iff.mpr (List.mem_cons_self ..)
      rcases List.mem_cons.mp ma with e | ma
      · exact e
      rcases List.mem_cons.mp mb with e | mb
      · exact e.symm
      rcases lexP_tri a b with c | c | c
      · rw [q1 a ma] at c; cases c
      · exact c
      · rw [p1 b mb] at c; cases c
    subst e
    rw [sorted_uniq ((List.perm_cons a).mp h) p2 q2]
theorem plain_tD (fs : List (List Pl)) : (fs.map tD).all (plain 9) = true := by
  rw [List.all_eq_true]
  intro d hd
  obtain ⟨t, _, rfl⟩ := List.mem_map.mp hd
  show (t.map Pl.d).all (plain 8) = true
  rw [List.all_eq_true]
  intro d hd
  obtain ⟨p, _, rfl⟩ := List.mem_map.mp hd
  rfl
end L3
namespace Att
open PySem PySem.W PySem.Calls PyProof.Rows
def Big (z : Int) : Prop := Builtin.Int.intBits z ≤ 1048576
theorem weight_int {N : Nat} : ∀ {ns : List Int}, WData.weightAll (ns.map WData.int) ≤ N → ∀ z ∈ ns, Builtin.Int.intBits z ≤ N
  | [], _, z, m => by cases m
  | n :: ns, h, z, m => by
    have e : WData.weightAll ((n :: ns).map WData.int) = Builtin.Int.intBits n + 1 + WData.weightAll (ns.map WData.int) := by
      rw [List.map_cons]
      simp only [WData.weightAll, WData.weight, Builtin.Int.intBits]
    rw [e] at h
    rcases List.mem_cons.mp m with rfl | m
    · omega
    · exact weight_int (by omega) z m
theorem big_of {ns : List Int} (h : WData.layableAll [WData.list (ns.map WData.int)] = true) : ∀ z ∈ ns, Big z := by
  have h : WData.layable (WData.list (ns.map WData.int)) = true := by simpa [WData.layableAll] using h
  unfold WData.layable at h
  have h := of_decide_eq_true (Bool.and_eq_true_iff.mp h).2
  have e : WData.weight (WData.list (ns.map WData.int)) = WData.weightAll (ns.map WData.int) := by simp only [WData.weight]
  rw [e] at h
  exact fun z m => weight_int h z m
theorem attach_callB {l : OpenLaw} {n : Nat} {q : Program} {loose : List Str} {XP : (Str → Option Value) → Heap → Prop} {YP : World → Heap → Prop} {d : DefRec}
    (hn : l.most = some n) (hdf : d.params.defaults = [])
    (call : ∀ (w : World) (s₀ s₁ : Shared) (mg mb : Str → Option Value) (fa : Addr) (o : Obj) (pm cd doc : Value) (a : Addr) (vs : List Value) (ns : List Int),
      Ground q loose [] XP w s₀ mg mb s₁.heap → YP w s₁.heap →
      s₁.heap.get? fa = some o → o.data = .func (docDef d.name d.params d.body d.scope pm cd doc) → s₁.heap.CodeRec cd d.name → mg d.name = some (.ref fa) →
      s₁.heap.get? a = some { cls := .type "list", data := .seq vs.toArray } → IntsAre vs ns → ns.length ≤ n → (∀ z ∈ ns, Big z) → s₁.gens = #[] →
      codeAny (model l.prog w) callerA (.call (.ref fa) ⟨[.ref a], []⟩) (fun r s' => r = .ok (.ret (.bool true)) ∧ OldK s₁.heap s'.heap ∧ s'.os = s₁.os ∧ AllBare s'.gens) s₁) :
    WalkO q loose XP YP l.row.toRowW d [] (fun f vs => PySem.call f vs) := by
  intro w s₀ s₁ mg mb G Y fa o pm cd doc dV kV ho hd hcd hD hmg hg args vals as hpre hlay hrd hwl hlo
  obtain rfl : dV = .none := Dflts.none hD hdf
  obtain rfl : kV = .none := Dflts.noKw hD
  obtain ⟨a, vs, ns, rfl, rfl, hobj, hints, hlen⟩ := script_of hn hpre hwl
  refine enter_call (codeAny_mono (call w s₀ s₁ mg mb fa o pm cd doc a vs ns G Y ho (fd_plain hd) hcd hmg hobj hints hlen (big_of hlay) hg) fun r s' hq => ?_)
  obtain ⟨rfl, h2, h3, h4⟩ := hq
  exact ⟨.inl ⟨.bool true, .bool true, [], rfl, fun _ => rfl, .bool true, post_true l _, fun _ => ⟨List.Pairwise.nil, fun _ hm => (nomatch hm)⟩⟩, h2, h3, h4⟩
end Att
namespace L2
open PySem PySem.Spec PyProof.Rows
theorem walk_ofB {l : PySem.W.OpenLaw} {n k : Nat} {q : Program} {loose : List Str} {XP : (Str → Option Value) → Heap → Prop} {YP : World → Heap → Prop} {d : DefRec} {K : Params → PySem.W.Frag} {CX : CXT} {sp : PySem.W.Frag → Sp} {x : Str}
    (hn : l.most = some n) (hn2 : n ≤ sizeLine) (hdf : d.params.defaults = []) (hr : Room k callerA)
    (hY : ∀ (w : World) (h : Heap), YP w h → (K w.params).In h)
    (F : ∀ (w : World) (mg : Str → Option Value) (fa : Addr) (h : Heap), (K w.params).In h → h.Ns mainGlobals mg → mg d.name = some (.ref fa) →
      ∃ fd : FuncData, (∀ (s : Shared) (u : Value), BindsTo s fd ⟨[u], []⟩ [(x, u)]) ∧
        ∀ base : Heap, (K w.params).In base → base.Ns mainGlobals mg → FnOk l.prog w (K w.params) mg base CX k fa fd [x] (sp (K w.params)))
    (hsp : ∀ (K : PySem.W.Frag) (H : Hp) (a : Addr) (ns : List Int), ns.length ≤ n → (∀ z ∈ ns, Att.Big z) → Only H → SqL K H a (ns.map V.int) → sp K [.ref a] H (fun v _ => v = .bl true) fun _ _ _ => False)
    (hCX : ∀ (H : Hp) (s : Shared) (e : Value) (s' : Shared), CX [] H s (fun _ _ _ => False) e s' → False) :
    PySem.W.WalkO q loose XP YP l.row.toRowW d [] (fun f vs => PySem.call f vs) := by
  refine Att.attach_callB hn hdf fun w s₀ s₁ mg mb fa o pm cd doc a vs ns G Y ho hd hcd hmg hobj hints hlen hbig hg => ?_
  have KX := hY w _ Y
  obtain ⟨fd, hb, hF⟩ := F w mg fa _ KX G.T.g hmg
  exact law_call (CX := CX) (sp := sp (K w.params)) KX G.T.g G.T.b G.T.builtins G.T.nolimit hg hobj hints (Nat.le_trans hlen hn2) hr hF hb (fun H hO hS => hsp (K w.params) H a ns hlen hbig hO hS) fun H e s' => hCX H s₁ e s'
end L2
namespace L3
open PySem PySem.Spec PyProof.Rows L2 Att
def S_lawB : SpP := fun ds Q => ∃ ns : List Int, ds = [.frl (ns.map D.int)] ∧ ns.length ≤ 63 ∧ (∀ z ∈ ns, Big z) ∧ Q (.bl true)
theorem law_spB {K : PySem.W.Frag} {H : Hp} {a : Addr} {ns : List Int} {E : XK} (hl : ns.length ≤ 63) (hb : ∀ z ∈ ns, Big z) (hO : Only H) (hS : SqL K H a (ns.map V.int)) : spP K S_lawB [.ref a] H (fun v _ => v = .bl true) E := by
  have hz : Fz K H a (ns.map V.int) := by
    rcases hS with (h | ⟨o, h⟩) | h
    · rcases hO a with z | ⟨o, xs, z⟩
      · rw [z] at h; cases h
      · rw [z] at h; cases h
    · exact .inl ⟨o, h⟩
    · exact .inr h
  exact ⟨[.frl (ns.map D.int)], fun d => d = .bl true, Dats.one (dat_frl.mpr ⟨a, _, rfl, hz, dats_ints ns⟩), ⟨ns, rfl, hl, hb, rfl⟩, fun d v H' q dv _ => by subst q; exact dat_bl.mp dv⟩
def MulB (i j : Int) : Prop := MulOk i j ∨ CMul i j ∨ (Big i ∧ ∃ n, Sm n j ∧ n ≤ 1000)
theorem MulB.ok {i j : Int} (h : MulB i j) : IntMulOk i j := by
  rcases h with h | h | ⟨h, n, h1, h2⟩
  · exact h.ok
  · exact h.ok
  · have := bits_of h1
    exact IntMulOk.of_bits (Nat.le_trans h (by decide)) (Nat.le_trans this (by omega))
section
variable {X : Cx}
theorem o_mulB : Op3 X (binaryOp .Mult) (rIntC MulB fun i j => i * j) := int3C (opI fun _ _ _ _ _ _ _ hc q => mul_int q hc.ok)
end
end L3
namespace L3
open PySem PySem.Spec PyProof.Rows L2
section
variable {X : Cx}
def rIndexV (K : PySem.W.Frag) : V → List V → Hp → VK → Prop := fun x vs H Q => ∃ (l : Addr) (xs : List V) (y : V) (ds : List D) (d : D) (j : Nat), x = .ref l ∧ vs = [y] ∧ H l = some (.lst xs) ∧ Dats K H ds xs ∧ Dat K H d y ∧ plain 9 d = true ∧ ds.all (plain 9) = true ∧
  ds[j]? = some d ∧ (∀ m e, m < j → ds[m]? = some e → eqD e d = false) ∧ Q (.int (j : Int)) H
theorem mt_index (hu : X.A.units + 64 < cLine) : MtM X "list.index" (rIndexV X.K) := by
  intro pins s σ H x vs v us Q I rx rv h
  obtain ⟨l, xs, y, ds, d, j, rfl, rfl, hH, hd, dy, pd, pds, hj, hno, q⟩ := h
  cases rx
  obtain ⟨u, rfl, ru⟩ := vals1 rv
  obtain ⟨z, its, n, r, hl, e⟩ := I.lstM hH
  have lj : j < ds.length := (List.getElem?_eq_some_iff.mp hj).1
  have ld := hd.length
  have get : ∀ m e, ds[m]? = some e → ∃ w, its[m]? = some w ∧ eOf X.K H d w = eqD e d := fun m e hm => by
    obtain ⟨v1, g1, g2⟩ := hd.get hm
    obtain ⟨u1, g3, g4⟩ := r.get g1
    exact ⟨u1, g3, eOf_eq (all_get pds hm) g2 g4⟩
  have szl : its.toArray.size = its.length := by simp
  refine call_meets PySem.F.slot_list_index ⟨_, e, rfl⟩ PySem.F.entry_list_index (PySem.F.args_list_index_2 _ _) (SeqAt.list_indexAt l its.toArray n none #[] u (eOf X.K H d) j (by omega) ?_ ?_ ?_) ⟨e, ?_, ?_⟩
  · have := line63
    omega
  · obtain ⟨w, g1, g2⟩ := get j d hj
    have e1 : its.toArray[j]'(by omega) = w := by
      have := List.getElem?_eq_getElem (l := its) (i := j) (by omega)
      rw [this] at g1
      simpa using g1
    rw [e1, g2]
    exact eqD_refl 9 _ pd
  · intro m hm hmj
    obtain ⟨w, g1, g2⟩ := get m _ (List.getElem?_eq_getElem (by omega))
    have e1 : its.toArray[m] = w := by
      have := List.getElem?_eq_getElem (l := its) (i := m) (by omega)
      rw [this] at g1
      simpa using g1
    rw [e1, g2]
    exact hno m _ hmj (List.getElem?_eq_getElem (by omega))
  · intro w hw
    exact mem_eOf I.hok (by show X.A.units + 1 + 9 < cLine; omega) pd dy ru hd r pds w (by simpa using hw)
  · exact ⟨.int (j : Int), H, I.tok _, ⟨_, rfl⟩, q⟩
def tIndex (to te : TE3) : TE3 := fun ρ M Q => to ρ M fun d M1 => (∃ l xs, d = .ref l ∧ M1 l = some (.lst xs)) ∧ te ρ M1 fun e M2 => ∃ (l : Addr) (xs : List D) (j : Nat), d = .ref l ∧ M2 l = some (.lst xs) ∧ plain 9 e = true ∧ xs.all (plain 9) = true ∧ xs[j]? = some e ∧ (∀ m e', m < j → xs[m]? = some e' → eqD e' e = false) ∧ Q (.int (j : Int)) M2
theorem q_index {o e : Expr} {to te : TE3} {apos pos : Pos} (ho : PE3 X o to) (he : PE3 X e te) (hpe : PE X (.Call (.Attribute o "index" apos) [e] [] pos) (tBM X.K "list" (rIndexV X.K) (dn X.K to) (tCons (dn X.K te) tNil))) : PE3 X (.Call (.Attribute o "index" apos) [e] [] pos) (tIndex to te) :=
  up hpe fun σ H ρ M Q r q => dn_of r q fun v H' d M' f dv r' ⟨⟨l, xs, e1, hM⟩, q⟩ => by
    subst e1
    obtain rfl := dat_ref.mp dv
    obtain ⟨ys, ha, hy⟩ := r'.mem.lst hM
    refine ⟨.inl ⟨rfl, _, SqL.of ha⟩, dn_of r' q fun u H2 d2 M2 f2 du r2 ⟨l', xs', j, e2, hM2, p1, p2, h1, h2, q2⟩ => ?_⟩
    injection e2 with e2
    subst e2
    obtain ⟨zs, hb, hz⟩ := r2.mem.lst hM2
    exact ⟨l, zs, u, xs', d2, j, rfl, rfl, hb, hz, du, p1, p2, h1, h2, .int (j : Int), M2, f.trans f2, dat_int.mpr rfl, r2.mem, q2⟩
def gSub3 (to ti : TE3) : TG3 := fun d ρ M Q => to ρ M fun o M1 => ti ρ M1 fun i M2 => ∃ l xs k j, o = .ref l ∧ i = .int k ∧ M2 l = some (.lst xs) ∧ ixN xs.length k = some j ∧ Q ρ (updM M2 l (.lst (xs.set j d)))
theorem Dats.set {K : PySem.W.Frag} {H : Hp} {d : D} {v : V} (h : Dat K H d v) : ∀ {ds : List D} {xs : List V} (j : Nat), Dats K H ds xs → Dats K H (ds.set j d) (xs.set j v)
  | [], xs, j, q => by rw [dats_nil.mp q]; exact dats_nil.mpr rfl
  | e :: ds, xs, j, q => by
    obtain ⟨w, ws, rfl, q1, q2⟩ := dats_cons.mp q
    cases j with
    | zero => exact dats_cons.mpr ⟨v, ws, rfl, h, q2⟩
    | succ j => exact dats_cons.mpr ⟨w, ws.set j v, rfl, q1, Dats.set h j q2⟩
theorem g_sub {o i : Expr} {to ti : TE3} {pos : Pos} (ho : PE3 X o to) (hi : PE3 X i ti)
    (ha : ∀ v, assign (.Subscript o i pos) X.env v = (do
      let ov ← holding [v] (eval o X.env)
      let iv ← holding [v, ov] (eval i X.env)
      standAt pos
      holding [v, ov, iv] (setItem ov iv v)
      release [v, ov, iv] []) := by intro _; rfl) : PG3 X (.Subscript o i pos) (gSub3 to ti) := by
  constructor
  intro pins s σ H ρ M v d u Q I r rv dv q
  refine pg_sub ho.dn hi.dn set_list ha pins s σ H v u _ I rv (dn_of r q fun x H1 d1 M1 f1 dx r1 q1 => dn_of r1 q1 fun y H2 d2 M2 f2 dy r2 ⟨l, xs, k, j, e1, e2, hM, hj, q2⟩ => ?_)
  subst e1 e2
  obtain rfl := dat_ref.mp dx
  obtain rfl := dat_int.mp dy
  obtain ⟨zs, hz, hd⟩ := r2.mem.lst hM
  have dv2 := Dat.mono ((f1.trans f2).ext r.mem) _ _ dv
  have f12 := f1.trans f2
  have fw : Fr M2 H2 (updM M2 l (.lst (xs.set j d))) (upd H2 l (.lst (zs.set j v))) := Fr.write (K := X.K) hM
  exact ⟨l, zs, k, j, rfl, rfl, hz, by rw [← hd.length]; exact hj, ρ, _, f12.trans fw, r2.go fw (r2.mem.writeL hz (Dats.set dv2 j hd)), q2⟩
def rEqL22 : R3 := fun d e M Q => ∃ a b a1 a2 b1 b2 x1 x2 y1 y2, d = .ref a ∧ e = .ref b ∧ M a = some (.lst [.ref a1, .ref a2]) ∧ M b = some (.lst [.ref b1, .ref b2]) ∧ M a1 = some (.lst x1) ∧ M a2 = some (.lst x2) ∧ M b1 = some (.lst y1) ∧ M b2 = some (.lst y2) ∧
  a1 ≠ b1 ∧ a2 ≠ b2 ∧ x1.all (plain 9) = true ∧ x2.all (plain 9) = true ∧ y1.all (plain 9) = true ∧ y2.all (plain 9) = true ∧ Q (.bl (eqDs x1 y1 && eqDs x2 y2)) M
theorem eqAt_lists {pins : List (Addr × Obj)} {σ : St} {H : Hp} {s : Shared} {M : Mp} {A : Around} (I : Inv X pins σ H s) (rm : RepM X.K H M) (hu : A.units + 12 < cLine) {a b : Addr} {xs ys : List D} (hne : a ≠ b) (ha : M a = some (.lst xs)) (hb : M b = some (.lst ys)) (pa : xs.all (plain 9) = true) (pb : ys.all (plain 9) = true) :
    SeqAt.EqAt A s (.ref a) (.ref b) (eqDs xs ys) := by
  obtain ⟨zs, h1, h2⟩ := rm.lst ha
  obtain ⟨ws, h3, h4⟩ := rm.lst hb
  obtain ⟨its, rv, pl, hz⟩ := I.list (SqL.of (K := X.K) h1)
  obtain ⟨its2, rv2, pl2, hz2⟩ := I.list (SqL.of (K := X.K) h3)
  have l1 := h2.length.trans rv.length
  have l2 := h4.length.trans rv2.length
  refine SeqAt.EqAt.of_refs hne ?_
  by_cases hs : its.toArray.size = its2.toArray.size
  · have key := SeqAt.RcAt.lists (A := A) (s := s) (e := fun j => eqD (xs.getD j .non) (ys.getD j .non)) pl.isList pl2.isList hs (by omega) (parts_eq I.hok (n := 9) (by show A.units + 1 + 9 < cLine; omega) pa pb h2 h4 rv rv2)
    simp only [List.size_toArray] at hs
    have e : ys.length = xs.length := by omega
    rw [eqDs_all, e, Nat.min_self, beq_self_eq_true, Bool.and_true]
    rw [List.size_toArray, ← l1] at key
    exact key
  · have key := SeqAt.RcAt.lists_lengths (A := A) (s := s) pl.isList pl2.isList (by simpa using hs) (by omega)
    simp only [List.size_toArray] at hs
    rw [eqDs_len (by omega)]
    exact key
theorem o_eqL22 (hu : X.A.units + 64 < cLine) : Op3 X (compareOp .Eq) rEqL22 := by
  constructor
  intro pins s σ H M x y d e v u Q I rm rx ry dx dy hx
  obtain ⟨a, b, a1, a2, b1, b2, x1, x2, y1, y2, e1, e2, ha, hb, h1, h2, h3, h4, n1, n2, p1, p2, p3, p4, q⟩ := hx
  subst e1; subst e2
  obtain rfl := dat_ref.mp dx
  obtain rfl := dat_ref.mp dy
  obtain rfl : v = Value.ref a := rx
  obtain rfl : u = Value.ref b := ry
  obtain ⟨zs, g1, g2⟩ := rm.lst ha
  obtain ⟨ws, g3, g4⟩ := rm.lst hb
  obtain ⟨z1, z2, rfl, k1, k2⟩ := dats2 g2
  obtain ⟨w1, w2, rfl, k3, k4⟩ := dats2 g4
  obtain rfl := dat_ref.mp k1
  obtain rfl := dat_ref.mp k2
  obtain rfl := dat_ref.mp k3
  obtain rfl := dat_ref.mp k4
  obtain ⟨its, rv, pl, hz⟩ := I.list (SqL.of (K := X.K) g1)
  obtain ⟨its2, rv2, pl2, hz2⟩ := I.list (SqL.of (K := X.K) g3)
  obtain ⟨u1, u2, rfl, r1, r2⟩ := vals2 rv
  obtain ⟨v1, v2, rfl, r3, r4⟩ := vals2 rv2
  obtain rfl : u1 = Value.ref a1 := r1
  obtain rfl : u2 = Value.ref a2 := r2
  obtain rfl : v1 = Value.ref b1 := r3
  obtain rfl : v2 = Value.ref b2 := r4
  have c1 := eqAt_lists (A := X.A.in1) I rm (by show X.A.units + 1 + 12 < cLine; omega) n1 h1 h3 p1 p3
  have c2 := eqAt_lists (A := X.A.in1) I rm (by show X.A.units + 1 + 12 < cLine; omega) n2 h2 h4 p2 p4
  refine SeqAt.RcAt.lists (A := X.A) (s := s) (e := fun j => if j = 0 then eqDs x1 y1 else eqDs x2 y2) pl.isList pl2.isList rfl (by omega) ?_ _ _ _ _ ⟨.bl _, H, I, rfl, post_self rm (dat_bl.mpr rfl) ?_⟩
  · intro j hj1 hj2
    match j, hj1, hj2 with
    | 0, _, _ => exact c1
    | 1, _, _ => exact c2
  · have e : (List.range #[Value.ref a1, Value.ref a2].size).all (fun j => if j = 0 then eqDs x1 y1 else eqDs x2 y2) = (eqDs x1 y1 && eqDs x2 y2) := by
      simp [List.range, List.range.loop]
    rw [e]
    exact q
end
end L3
namespace L3
open PySem PySem.Spec PyProof.Rows L2
def compChkC (outer : Scope) (N : List Str) (sc : Scope) (x : Str) (ys : List Str) (fs : List Nat) : Bool :=
  (sc.kind == .function) && (outer.kind == .function) && sc.names.all (fun y => (!(y.2 == .local) || sc.names.lookup y.1 == some .local) && (!(y.2 == .free) || outer.names.lookup y.1 == some .cell)) && (sc.names.lookup x == some .cell) &&
    (sc.names.filter (fun y => y.2 == .cell) == [(x, .cell)]) &&
    decide (ys.length = fs.length) && (ys.zip fs).all (fun p => N[p.2]? == some p.1 && sc.names.lookup p.1 == some .free) && decide (x :: ys).Nodup
structure CompOkC (outer : Scope) (N : List Str) (sc : Scope) (x : Str) (ys : List Str) (fs : List Nat) : Prop where
  kind : sc.kind = .function
  okind : outer.kind = .function
  names : ∀ y ∈ sc.names, y.2 = .local → sc.names.lookup y.1 = some .local
  fre : ∀ y ∈ sc.names, y.2 = .free → outer.names.lookup y.1 = some .cell
  loc : sc.names.lookup x = some .cell
  cells : sc.names.filter (fun y => y.2 == .cell) = [(x, .cell)]
  len : ys.length = fs.length
  at' : ∀ (k : Nat) y, ys[k]? = some y → ∃ i, fs[k]? = some i ∧ N[i]? = some y ∧ sc.names.lookup y = some .free
  nd : (x :: ys).Nodup
theorem CompOkC.of {outer : Scope} {N : List Str} {sc : Scope} {x : Str} {ys : List Str} {fs : List Nat} (h : compChkC outer N sc x ys fs = true) : CompOkC outer N sc x ys fs := by
  unfold compChkC at h
  simp only [Bool.and_eq_true, List.all_eq_true, decide_eq_true_eq] at h
  obtain ⟨⟨⟨⟨⟨⟨⟨h1, h1'⟩, h2⟩, h3⟩, hc⟩, h4⟩, h5⟩, h6⟩ := h
  refine ⟨eq_of_beq h1, eq_of_beq h1', fun y hy z => ?_, fun y hy z => ?_, eq_of_beq h3, eq_of_beq hc, h4, fun k y e => ?_, h6⟩
  · have := (h2 y hy).1
    rw [z] at this
    simpa using this
  · have := (h2 y hy).2
    rw [z] at this
    simpa using this
  · have hk : k < fs.length := by rw [← h4]; exact (List.getElem?_eq_some_iff.mp e).1
    have ez : (ys.zip fs)[k]? = some (y, fs[k]) := by
      rw [List.getElem?_zip_eq_some]
      exact ⟨e, List.getElem?_eq_getElem hk⟩
    obtain ⟨q1, q2⟩ := h5 _ (List.mem_of_getElem? ez)
    exact ⟨fs[k], List.getElem?_eq_getElem hk, eq_of_beq q1, eq_of_beq q2⟩
section
variable {X : Cx} {sc : Scope} {x : Str} {ys : List Str} {fs : List Nat}
end
section
variable {X : Cx} {sc : Scope} {x : Str} {ys : List Str} {fs : List Nat} {elt iter : Expr} {px pos : Pos} {ifs : List Expr} {tt : TT3} {te : TE3} {ti : TE3}
end
end L3
namespace L3
open PySem PySem.Spec PyProof.Rows L2 Att
def TriOk (t : List Pl) : Prop := ∃ a b c : Pl, t = [a, b, c] ∧ a.Ok 140 ∧ b.Ok 140 ∧ c.Ok 140
def twT : List Pl → Int
  | [a, b, c] => tw a b c
  | _ => 0
def sqP (p : Pl) : Int := p.x * p.x + p.y * p.y
def areaZ (ts : List (List Pl)) : Int := (ts.map twT).sum
def hgtT (t : List Pl) : Int := (t.map sqP).sum
def highs (ts : List (List Pl)) : Int := (ts.map fun t => areaZ [t] * hgtT t).sum
theorem areaZ_one (t : List Pl) : areaZ [t] = twT t := by simp [areaZ]
theorem map_take {α β : Type} {f : α → β} {xs : List α} {i : Nat} {x : α} (h : xs[i]? = some x) : (xs.take (i + 1)).map f = (xs.take i).map f ++ [f x] := by
  rw [List.take_succ, h, List.map_append]
  rfl
def vec (A : Int) (B : Pl → Int) (qs : List Pl) : List D := .int A :: qs.map fun q => .int (B q)
def minus (B : Pl → Int) (p : Pl) (w : Int) : Pl → Int := fun q => if q = p then B q - w else B q
theorem vec_set {A : Int} {B : Pl → Int} {w : Int} : ∀ {qs : List Pl} {j : Nat} {p : Pl}, qs.Nodup → qs[j]? = some p → (qs.map fun q => (D.int (B q))).set j (.int (B p - w)) = qs.map fun q => .int (minus B p w q)
  | [], _, _, _, h => by simp at h
  | q :: qs, j, p, nd, h => by
    obtain ⟨n1, n2⟩ := List.nodup_cons.mp nd
    cases j with
    | zero =>
      have e : q = p := by simpa using h
      subst e
      rw [List.map_cons, List.map_cons, List.set_cons_zero]
      congr 1
      · unfold minus; rw [if_pos rfl]
      · refine List.map_congr_left fun r hr => ?_
        unfold minus
        rw [if_neg (fun z => n1 (by rw [← z]; exact hr))]
    | succ j =>
      have h : qs[j]? = some p := by simpa using h
      rw [List.map_cons, List.map_cons, List.set_cons_succ, vec_set (A := A) n2 h]
      congr 1
      unfold minus
      rw [if_neg (fun z => n1 (by rw [z]; exact List.mem_of_getElem? h))]
theorem vec_setS {A : Int} {B : Pl → Int} {w : Int} {qs : List Pl} {j : Nat} {p : Pl} (nd : qs.Nodup) (h : qs[j]? = some p) : (vec A B qs).set (j + 1) (.int (B p - w)) = vec A (minus B p w) qs := by
  unfold vec
  rw [List.set_cons_succ, vec_set (A := A) nd h]
theorem vec_set0 {A A' : Int} {B : Pl → Int} {qs : List Pl} : (vec A B qs).set 0 (.int A') = vec A' B qs := rfl
theorem vec_at {A : Int} {B : Pl → Int} {qs : List Pl} {j : Nat} {p : Pl} (h : qs[j]? = some p) : (vec A B qs)[j + 1]? = some (.int (B p)) := by
  unfold vec
  rw [List.getElem?_cons_succ, List.getElem?_map, h]
  rfl
def takeT (B : Pl → Int) (t : List Pl) : Pl → Int := t.foldl (fun B p => minus B p (twT t)) B
def addT (A : Int) (t : List Pl) : Int := t.foldl (fun A p => A + twT t * sqP p) A
def allA (ts : List (List Pl)) : Int := ts.foldl addT 0
def allB (ts : List (List Pl)) : Pl → Int := ts.foldl takeT (fun _ => 0)
theorem foldA (w : Int) : ∀ (t : List Pl) (A : Int), t.foldl (fun A p => A + w * sqP p) A = A + w * hgtT t
  | [], A => by simp [hgtT]
  | p :: t, A => by
    rw [List.foldl_cons, foldA w t]
    unfold hgtT
    rw [List.map_cons, List.sum_cons, Int.mul_add]
    omega
theorem foldB (w : Int) : ∀ (t : List Pl) (B : Pl → Int), t.Nodup → ∀ q, t.foldl (fun B p => minus B p w) B q = B q - (if q ∈ t then w else 0)
  | [], B, _, q => by simp
  | p :: t, B, nd, q => by
    obtain ⟨n1, n2⟩ := List.nodup_cons.mp nd
    rw [List.foldl_cons, foldB w t _ n2 q]
    unfold minus
    by_cases e : q = p
    · subst e
      rw [if_pos rfl, if_neg n1, if_pos (List.mem_cons_self ..)]
      omega
    · rw [if_neg e]
      by_cases m : q ∈ t
      · rw [if_pos m, if_pos (List.mem_cons_of_mem _ m)]
      · rw [if_neg m, if_neg (fun z => (List.mem_cons.mp z).elim e m)]
theorem allA_is : ∀ (ts : List (List Pl)) (A : Int), ts.foldl addT A = A + highs ts
  | [], A => by simp [highs]
  | t :: ts, A => by
    rw [List.foldl_cons, allA_is ts]
    unfold addT
    rw [foldA]
    unfold highs
    rw [List.map_cons, List.sum_cons, areaZ_one]
    omega
theorem allB_is : ∀ (ts : List (List Pl)) (B : Pl → Int), (∀ t ∈ ts, t.Nodup) → ∀ q, ts.foldl takeT B q = B q - areaZ (ts.filter fun t => decide (q ∈ t))
  | [], B, _, q => by simp [areaZ]
  | t :: ts, B, nd, q => by
    rw [List.foldl_cons, allB_is ts _ (fun u hu => nd u (List.mem_cons_of_mem _ hu)) q]
    unfold takeT
    rw [foldB _ _ _ (nd t (List.mem_cons_self ..)) q, List.filter_cons]
    by_cases m : q ∈ t
    · rw [if_pos m, if_pos (decide_eq_true m)]
      unfold areaZ
      rw [List.map_cons, List.sum_cons]
      omega
    · rw [if_neg m, if_neg (by simpa using m)]
      omega
def told31 (ts : List (List Pl)) (qs : List Pl) : List Int := highs ts :: qs.map fun q => -(areaZ (ts.filter fun t => decide (q ∈ t)))
theorem told_is {ts : List (List Pl)} {qs : List Pl} (nd : ∀ t ∈ ts, t.Nodup) : (told31 ts qs).map D.int = vec (allA ts) (allB ts) qs := by
  unfold told31 vec allA allB
  rw [List.map_cons, allA_is, Int.zero_add, List.map_map]
  congr 1
  refine List.map_congr_left fun q _ => ?_
  rw [allB_is ts _ nd q]
  simp
theorem sorted_uniqP : ∀ {as bs : List Pl}, as.Perm bs → as.Pairwise (fun a b => ¬ bef b a) → bs.Pairwise (fun a b => ¬ bef b a) → as = bs
  | [], bs, h, _, _ => by rw [List.nil_perm.mp h]
  | a :: as, [], h, _, _ => by simp at h
  | a :: as, b :: bs, h, h1, h2 => by
    obtain ⟨p1, p2⟩ := List.pairwise_cons.mp h1
    obtain ⟨q1, q2⟩ := List.pairwise_cons.mp h2
    have e : a = b := by
      have ma : a ∈ b :: bs := h.mem_iff.mp (List.mem_cons_self ..)
      have mb : b ∈ a :: as := h.mem_iff.mpr (List.mem_cons_self ..)
      rcases List.mem_cons.mp ma with e | ma
      · exact e
      rcases List.mem_cons.mp mb with e | mb
      · exact e.symm
      rcases bef_tri a b with c | c | c
      · exact absurd c (q1 a ma)
      · exact c
      · exact absurd c (p1 b mb)
    subst e
    rw [sorted_uniqP ((List.perm_cons a).mp h) p2 q2]
def Quad (a b c d : Pl) : Prop := tw a b c ≠ 0 ∧ tw a b d ≠ 0 ∧ tw c d a ≠ 0 ∧ tw c d b ≠ 0
theorem Quad.of {p q r s : Pl} (h1 : tw p q r * tw p q s < 0) (h2 : tw r s p * tw r s q < 0) : Quad p q r s := by
  refine ⟨fun z => ?_, fun z => ?_, fun z => ?_, fun z => ?_⟩
  · rw [z, Int.zero_mul] at h1; omega
  · rw [z, Int.mul_zero] at h1; omega
  · rw [z, Int.zero_mul] at h2; omega
  · rw [z, Int.mul_zero] at h2; omega
theorem Quad.nd {a b c d : Pl} (h : Quad a b c d) : [a, c, b, d].Nodup := by
  obtain ⟨h1, h2, h3, h4⟩ := h
  obtain ⟨n1, n2, n3⟩ := tw_ne h1
  obtain ⟨m1, m2, m3⟩ := tw_ne h2
  obtain ⟨k1, k2, k3⟩ := tw_ne h3
  simp only [List.nodup_cons, List.mem_cons, List.not_mem_nil, or_false, not_or, List.nodup_nil, and_true, not_false_eq_true]
  exact ⟨⟨n2, n1, m2⟩, ⟨Ne.symm n3, k1⟩, m3⟩
theorem Quad.par {a : Pl} {w1 w2 h1 h2 : Int} (p1 : 1 ≤ w1) (p2 : 0 ≤ w2) (q1 : h1 ≤ 0) (q2 : 1 ≤ h2) :
    Quad a ⟨a.x + w1 + h1, a.y + w2 + h2⟩ ⟨a.x + w1, a.y + w2⟩ ⟨a.x + h1, a.y + h2⟩ := by
  have pos : 0 < w1 * h2 - w2 * h1 := by
    have e1 : 0 < w1 * h2 := Int.mul_pos (by omega) (by omega)
    have e2 : w2 * h1 ≤ 0 := Int.mul_nonpos_of_nonneg_of_nonpos p2 q1
    omega
  refine ⟨?_, ?_, ?_, ?_⟩
  · intro z
    apply absurd pos
    unfold tw at z
    simp only at z
    have : w1 * h2 - w2 * h1 = 0 := by grind
    omega
  · intro z
    apply absurd pos
    unfold tw at z
    simp only at z
    have : w1 * h2 - w2 * h1 = 0 := by grind
    omega
  · intro z
    apply absurd pos
    unfold tw at z
    simp only at z
    have : w1 * h2 - w2 * h1 = 0 := by grind
    omega
  · intro z
    apply absurd pos
    unfold tw at z
    simp only at z
    have : w1 * h2 - w2 * h1 = 0 := by grind
    omega
theorem trg_ok {a b c : Pl} (h : tw a b c ≠ 0) (ha : a.Ok 140) (hb : b.Ok 140) (hc : c.Ok 140) : TriOk (trg a b c) ∧ (trg a b c).Nodup ∧ ∀ p ∈ trg a b c, p = a ∨ p = b ∨ p = c := by
  obtain ⟨h1, h2⟩ := trg_is h
  obtain ⟨u, v, w, e, b1, b2, t0⟩ := h1
  rw [e] at h2 ⊢
  obtain ⟨o1, o2, o3⟩ := ok_perm3 h2 ha hb hc
  obtain ⟨n1, n2, n3⟩ := tw_ne (show tw u v w ≠ 0 by omega)
  refine ⟨⟨u, v, w, rfl, o1, o2, o3⟩, by simp [n1, n2, n3], fun p hp => ?_⟩
  have := h2.mem_iff.mp hp
  simpa using this
theorem trg_len {a b c : Pl} (h : tw a b c ≠ 0) : (trg a b c).length = 3 := by
  obtain ⟨⟨u, v, w, e, _⟩, _⟩ := trg_is h
  rw [e]; rfl
end L3
namespace PySem
open PySem.Calls PySem.W
section
variable {prog : Program} {w : World} {A : Around} {s : Shared} {R : Result → Shared → Prop} {E : Value → Shared → Prop}
variable {I : Addr} {fp wr : List Addr} {G : Array GenState → Array GenState → Prop} {n : Nat} {P : Nat → Value → Prop} {St : Nat → Shared → Prop}
end
end PySem
namespace L3
open PySem PySem.Spec PyProof.Rows L2
section
variable {X : Cx} {pos : Pos}
end
end L3
namespace L3
open PySem PySem.Spec PyProof.Rows L2
section
variable {P : Program} {w : World} {A : Around} {E : Value → Shared → Prop} {s : Shared}
end
section
variable {X : Cx} {pos : Pos}
end
end L3
namespace L3
open PySem PySem.Spec PyProof.Rows L2
section
open PySem.SeqAt
open PySem.AutoSeq1 (wpAny_loadPart')
open PySem.MeetsSeq PySem.MeetsSeq2 PySem.MeetsSeq3
end
section
variable {X : Cx} {pos : Pos}
def tExt (to te : TE3) : TE3 := fun ρ M Q => to ρ M fun d M1 => (∃ l xs, d = .ref l ∧ M1 l = some (.lst xs)) ∧ te ρ M1 fun e M2 => ∃ (l b : Addr) (xs zs : List D), d = .ref l ∧ e = .ref b ∧ M2 l = some (.lst xs) ∧ M2 b = some (.lst zs) ∧ xs.length + zs.length ≤ sizeLine ∧ Q .non (updM M2 l (.lst (xs ++ zs)))
theorem q_ext {o e : Expr} {to te : TE3} {apos pos : Pos} (ho : PE3 X o to) (he : PE3 X e te) (hpe : PE X (.Call (.Attribute o "extend" apos) [e] [] pos) (tBM X.K "list" rExtend (dn X.K to) (tCons (dn X.K te) tNil))) : PE3 X (.Call (.Attribute o "extend" apos) [e] [] pos) (tExt to te) :=
  up hpe fun σ H ρ M Q r q => dn_of r q fun v H' d M' f dv r' ⟨⟨l, xs, e1, hM⟩, q⟩ => by
    subst e1
    obtain rfl := dat_ref.mp dv
    obtain ⟨ys, ha, hy⟩ := r'.mem.lst hM
    refine ⟨.inl ⟨rfl, _, SqL.of ha⟩, dn_of r' q fun u H2 d2 M2 f2 du r2 ⟨l', b, xs', zs, e2, e3, hM2, hB, hlt, q2⟩ => ?_⟩
    injection e2 with e2
    subst e2 e3
    obtain rfl := dat_ref.mp du
    obtain ⟨ws, hb, hw⟩ := r2.mem.lst hM2
    obtain ⟨vs, hc, hv⟩ := r2.mem.lst hB
    exact ⟨l, b, ws, vs, rfl, rfl, hb, hc, by rw [← hw.length, ← hv.length]; exact hlt, .non, _, (f.trans f2).trans (Fr.write (K := X.K) hM2), dat_non.mpr rfl, r2.mem.writeL hb (hw.append hv), q2⟩
end
end L3
namespace PySem.SetTable
def adv : Nat → SetTable → Probe → Probe
  | 0, _, p => p
  | k + 1, t, p => adv k t (t.advance p)
theorem adv_add (t : SetTable) : ∀ (a b : Nat) (p : Probe), adv (a + b) t p = adv b t (adv a t p)
  | 0, b, p => by rw [Nat.zero_add]; rfl
  | a + 1, b, p => by
    rw [show a + 1 + b = (a + b) + 1 by omega]
    exact adv_add t a b (t.advance p)
theorem adv_dummy (t : SetTable) (p : Probe) : (t.advance p).dummy = p.dummy := by
  unfold advance
  split <;> rfl
theorem advN_dummy (t : SetTable) : ∀ (k : Nat) (p : Probe), (adv k t p).dummy = p.dummy
  | 0, _ => rfl
  | k + 1, p => (advN_dummy t k (t.advance p)).trans (adv_dummy t p)
theorem slot_two {t : SetTable} (h : t.dummies = #[]) (j : Nat) : t.slot j = .empty ∨ ∃ i, t.slot j = .live i ∧ t.place[i]? = some j := by
  unfold slot
  by_cases c : (t.place[below t.place j]? == some j) = true
  · rw [if_pos c]
    exact .inr ⟨_, rfl, by simpa using c⟩
  · rw [if_neg c, if_neg (by rw [h]; unfold has; simp)]
    exact .inl rfl
theorem slot_free {t : SetTable} (h : t.dummies = #[]) {j : Nat} (n : ∀ i : Nat, t.place[i]? ≠ some j) : t.slot j = .empty := by
  rcases slot_two h j with e | ⟨i, _, e⟩
  · exact e
  · exact absurd e (n i)
theorem len_sub {α : Type} [DecidableEq α] {l m : List α} (nd : l.Nodup) (sub : ∀ x ∈ l, x ∈ m) : l.length ≤ m.length := by
  induction l generalizing m with
  | nil => simp
  | cons a l ih =>
    obtain ⟨h1, h2⟩ := List.nodup_cons.mp nd
    have ma := sub a (List.mem_cons_self ..)
    have := ih (m := m.erase a) h2 fun x hx => (List.mem_erase_of_ne (show x ≠ a from fun e => h1 (e ▸ hx))).mpr (sub x (List.mem_cons_of_mem _ hx))
    rw [List.length_erase_of_mem ma] at this
    have : 0 < m.length := List.length_pos_of_mem ma
    rw [List.length_cons]
    omega
theorem some_free {t : SetTable} (h : t.place.size ≤ t.mask) : ∃ j, j ≤ t.mask ∧ ∀ i : Nat, t.place[i]? ≠ some j := by
  apply Classical.byContradiction
  intro c
  have all : ∀ j ∈ List.range (t.mask + 1), j ∈ t.place.toList := fun j hj => by
    have hj := List.mem_range.mp hj
    apply Classical.byContradiction
    intro n
    refine c ⟨j, by omega, fun i e => n ?_⟩
    exact Array.mem_toList_iff.mpr (Array.mem_of_getElem? e)
  have := len_sub List.nodup_range all
  rw [List.length_range, Array.length_toList] at this
  omega
def lpP (t : SetTable) (p : Probe) : Probe := { j := (leap t.mask p.i p.perturb).1, more := runEnd t.mask (leap t.mask p.i p.perturb).1 - (leap t.mask p.i p.perturb).1, i := (leap t.mask p.i p.perturb).1, perturb := (leap t.mask p.i p.perturb).2, dummy := p.dummy }
theorem adv_lp (t : SetTable) : ∀ (n : Nat) (p : Probe), p.more = n → adv (n + 1) t p = lpP t p
  | 0, p, h => by
    show t.advance p = lpP t p
    unfold advance
    rw [if_neg (by omega)]
    rfl
  | n + 1, p, h => by
    have e : t.advance p = { p with j := p.j + 1, more := p.more - 1 } := by
      unfold advance
      rw [if_pos (by omega)]
    show adv (n + 1) t (t.advance p) = _
    rw [adv_lp t n (t.advance p) (by rw [e]; show p.more - 1 = n; omega), e]
    rfl
theorem run_le (mask i : Nat) : runEnd mask i - i ≤ 9 := by
  unfold runEnd
  split <;> omega
def lpN : Nat → SetTable → Probe → Probe
  | 0, _, p => p
  | m + 1, t, p => lpN m t (lpP t p)
theorem lpN_adv (t : SetTable) : ∀ (m : Nat) (p : Probe), p.more ≤ 9 → ∃ k, k ≤ 10 * m ∧ adv k t p = lpN m t p
  | 0, p, _ => ⟨0, Nat.le_refl _, rfl⟩
  | m + 1, p, h => by
    obtain ⟨k, h1, h2⟩ := lpN_adv t m (lpP t p) (run_le _ _)
    refine ⟨p.more + 1 + k, by omega, ?_⟩
    rw [adv_add, adv_lp t p.more p rfl, h2]
    rfl
def leapN (mask : Nat) : Nat → Nat → Nat → Nat × Nat
  | 0, i, q => (i, q)
  | m + 1, i, q => leapN mask m (leap mask i q).1 (leap mask i q).2
theorem lpN_is (t : SetTable) : ∀ (m : Nat) (p : Probe), p.j = p.i → (lpN m t p).j = (leapN t.mask m p.i p.perturb).1
  | 0, p, h => h
  | m + 1, p, h => lpN_is t m (lpP t p) rfl
theorem leapN_add (mask : Nat) : ∀ (a b i q : Nat), leapN mask (a + b) i q = leapN mask b (leapN mask a i q).1 (leapN mask a i q).2
  | 0, b, i, q => by rw [Nat.zero_add]; rfl
  | a + 1, b, i, q => by
    rw [show a + 1 + b = (a + b) + 1 by omega]
    exact leapN_add mask a b _ _
theorem leapN_q (mask : Nat) : ∀ (m i q : Nat), (leapN mask m i q).2 = q / 32 ^ m
  | 0, i, q => by show q = q / 1; rw [Nat.div_one]
  | m + 1, i, q => by
    show (leapN mask m _ (q / 32)).2 = _
    rw [leapN_q mask m, Nat.div_div_eq_div_mul, Nat.pow_succ, Nat.mul_comm]
theorem leapN_lt (mask : Nat) : ∀ (m i q : Nat), (leapN mask (m + 1) i q).1 ≤ mask
  | 0, i, q => Nat.le_of_lt_succ (Nat.mod_lt _ (Nat.succ_pos _))
  | m + 1, i, q => leapN_lt mask m _ _
def Round (mask : Nat) : Prop := (∀ j, j ≤ mask → ∃ m, m ≤ mask ∧ (leapN mask m 0 0).1 = j) ∧ (leapN mask (mask + 1) 0 0).1 = 0
theorem zero_q (mask m i : Nat) : (leapN mask m i 0).2 = 0 := by rw [leapN_q, Nat.zero_div]
theorem round_from {mask : Nat} (R : Round mask) {i j : Nat} (hi : i ≤ mask) (hj : j ≤ mask) : ∃ m, m ≤ mask + 1 ∧ (leapN mask m i 0).1 = j := by
  obtain ⟨R1, R2⟩ := R
  obtain ⟨a, ha, ea⟩ := R1 i hi
  obtain ⟨b, hb, eb⟩ := R1 j hj
  by_cases c : a ≤ b
  · refine ⟨b - a, by omega, ?_⟩
    have := leapN_add mask a (b - a) 0 0
    rw [zero_q, ea, show a + (b - a) = b by omega] at this
    rw [← this]
    exact eb
  · refine ⟨mask + 1 + b - a, by omega, ?_⟩
    have h1 := leapN_add mask a (mask + 1 + b - a) 0 0
    rw [zero_q, ea, show a + (mask + 1 + b - a) = mask + 1 + b by omega] at h1
    have h2 := leapN_add mask (mask + 1) b 0 0
    rw [zero_q, R2] at h2
    rw [← h1, h2]
    exact eb
theorem bits_lt (h : Int) : bits h < 2 ^ 64 := by
  unfold bits
  have h1 := Int.emod_nonneg h (show (2 ^ 64 : Int) ≠ 0 by decide)
  have h2 := Int.emod_lt_of_pos h (show (0 : Int) < 2 ^ 64 by decide)
  omega
theorem leap_all {mask : Nat} (R : Round mask) {i q j : Nat} (hq : q < 2 ^ 64) (hj : j ≤ mask) : ∃ m, m ≤ mask + 14 ∧ (leapN mask m i q).1 = j := by
  have z : (leapN mask 13 i q).2 = 0 := by
    rw [leapN_q]
    exact Nat.div_eq_of_lt (Nat.lt_of_lt_of_le hq (by decide))
  obtain ⟨m, hm, e⟩ := round_from R (leapN_lt mask 12 i q) hj
  refine ⟨13 + m, by omega, ?_⟩
  rw [leapN_add, z]
  exact e
def MaskOk (mask : Nat) : Prop := mask = 7 ∨ mask = 31 ∨ mask = 127 ∨ mask = 511
def orb (mask : Nat) : Nat → Nat → List Nat
  | 0, _ => []
  | n + 1, i => i :: orb mask n ((i * 5 + 1) % (mask + 1))
theorem orb_at (mask : Nat) : ∀ (n i j : Nat), j ∈ orb mask n i → ∃ m, m < n ∧ (leapN mask m i 0).1 = j
  | 0, _, _, h => by cases h
  | n + 1, i, j, h => by
    rcases List.mem_cons.mp h with rfl | h
    · exact ⟨0, by omega, rfl⟩
    · obtain ⟨m, hm, e⟩ := orb_at mask n _ j h
      exact ⟨m + 1, by omega, e⟩
theorem orbit_of {mask : Nat} (h : (List.range (mask + 1)).all (fun j => (orb mask (mask + 1) 0).contains j) = true) (h2 : ((leapN mask (mask + 1) 0 0).1 == 0) = true) : Round mask := by
  refine ⟨fun j hj => ?_, by simpa using h2⟩
  have := List.all_eq_true.mp h j (List.mem_range.mpr (by omega))
  obtain ⟨m, hm, e⟩ := orb_at mask (mask + 1) 0 j (List.contains_iff_mem.mp this)
  exact ⟨m, by omega, e⟩
theorem MaskOk.round {mask : Nat} (h : MaskOk mask) : Round mask := by
  rcases h with rfl | rfl | rfl | rfl
  · exact orbit_of (by decide +kernel) (by decide +kernel)
  · exact orbit_of (by decide +kernel) (by decide +kernel)
  · exact orbit_of (by decide +kernel) (by decide +kernel)
  · exact orbit_of (by decide +kernel) (by decide +kernel)
def Good (t : SetTable) (n : Nat) : Prop := t.place.size = n ∧ t.dummies = #[] ∧ MaskOk t.mask ∧ n * 5 < t.mask * 3
theorem Good.fits {t : SetTable} {n : Nat} (g : Good t n) : t.fits n = true := by
  obtain ⟨h1, h2, h3, h4⟩ := g
  unfold SetTable.fits fill
  rw [h1, h2]
  simp
  omega
theorem way_free {t : SetTable} {n : Nat} (g : Good t n) (h : Int) : ∃ k, k < 10 * turns t.mask ∧ t.slot (adv k t (t.probeStart h)).j = .empty := by
  obtain ⟨h1, h2, h3, h4⟩ := g
  obtain ⟨j, hj, nj⟩ := some_free (t := t) (by omega)
  obtain ⟨m, hm, e⟩ := leap_all h3.round (i := (t.probeStart h).i) (q := (t.probeStart h).perturb) (bits_lt h) hj
  obtain ⟨k, hk, e2⟩ := lpN_adv t m (t.probeStart h) (run_le _ _)
  refine ⟨k, by unfold turns; omega, ?_⟩
  rw [e2, lpN_is t m _ rfl, e]
  exact slot_free h2 nj
theorem free_ends {mask : Nat} {owner : Array (Option Nat)} {j0 : Nat} (h0 : (owner.getD j0 (some 0)).isNone = true) : ∀ (m fuel i q : Nat), m < fuel → (leapN mask m i q).1 = j0 → ∃ j, layClean.free mask owner fuel i q = some j ∧ (owner.getD j (some 0)).isNone = true := by
  intro m
  induction m with
  | zero =>
    intro fuel i q hf e
    cases fuel with
    | zero => omega
    | succ f =>
      have e : i = j0 := e
      unfold layClean.free
      split
      · rename_i k hk
        exact ⟨i + k, rfl, List.find?_some (p := fun k => (owner.getD (i + k) (some 0)).isNone) hk⟩
      · rename_i hk
        have := List.find?_eq_none.mp hk 0 (List.mem_range.mpr (by unfold runEnd; split <;> omega))
        rw [Nat.add_zero, e] at this
        exact absurd h0 this
  | succ m ih =>
    intro fuel i q hf e
    cases fuel with
    | zero => omega
    | succ f =>
      unfold layClean.free
      split
      · rename_i k hk
        exact ⟨i + k, rfl, List.find?_some (p := fun k => (owner.getD (i + k) (some 0)).isNone) hk⟩
      · exact ih f _ _ (by omega) e
theorem free_found {mask : Nat} (R : Round mask) {owner : Array (Option Nat)} {j0 : Nat} (hj : j0 ≤ mask) (h0 : (owner.getD j0 (some 0)).isNone = true) (h : Int) : ∃ j, layClean.free mask owner (turns mask) (bits h % (mask + 1)) (bits h) = some j ∧ (owner.getD j (some 0)).isNone = true := by
  obtain ⟨m, hm, e⟩ := leap_all R (i := bits h % (mask + 1)) (q := bits h) (bits_lt h) hj
  exact free_ends h0 m _ _ _ (by unfold turns; omega) e
def live (mask : Nat) (owner : Array (Option Nat)) : List (Nat × Nat) := (List.range (mask + 1)).filterMap fun j => (owner.getD j none).map (j, ·)
theorem cnt_up {f g : Nat → Bool} {j0 : Nat} (hne : ∀ j, j ≠ j0 → f j = g j) (hf : f j0 = false) (hg : g j0 = true) : ∀ n, (List.range n).countP g = (List.range n).countP f + (if j0 < n then 1 else 0)
  | 0 => by simp
  | n + 1 => by
    rw [List.range_succ, List.countP_append, List.countP_append, cnt_up hne hf hg n]
    by_cases e : n = j0
    · subst e
      simp [hf, hg]
    · rw [show List.countP g [n] = List.countP f [n] by simp [List.countP_cons, hne n e]]
      by_cases c : j0 < n
      · rw [if_pos c, if_pos (by omega)]
        omega
      · rw [if_neg c, if_neg (by omega)]
        omega
theorem live_len (mask : Nat) (owner : Array (Option Nat)) : (live mask owner).length = (List.range (mask + 1)).countP fun j => (owner.getD j none).isSome := by
  unfold live
  induction List.range (mask + 1) with
  | nil => rfl
  | cons j l ih =>
    rw [List.filterMap_cons, List.countP_cons]
    cases e : owner.getD j none with
    | none => simpa using ih
    | some v => simpa using ih
def Own (mask : Nat) (owner : Array (Option Nat)) (k : Nat) : Prop := owner.size = mask + 1 ∧ (live mask owner).length = k ∧ ∀ (j v : Nat), owner[j]? = some (some v) → v < k
theorem own_nil (mask : Nat) : Own mask (Array.replicate (mask + 1) none) 0 := by
  refine ⟨by simp, ?_, fun j v e => ?_⟩
  · rw [live_len, List.countP_eq_zero]
    intro j hj
    have hj := List.mem_range.mp hj
    simp [Array.getD, hj]
  · rw [Array.getElem?_replicate] at e
    split at e <;> cases e
theorem own_free {mask k : Nat} {owner : Array (Option Nat)} (o : Own mask owner k) (hk : k ≤ mask) : ∃ j, j ≤ mask ∧ (owner.getD j (some 0)).isNone = true := by
  obtain ⟨o1, o2, _⟩ := o
  apply Classical.byContradiction
  intro c
  have : (List.range (mask + 1)).countP (fun j => (owner.getD j none).isSome) = (List.range (mask + 1)).length := by
    rw [List.countP_eq_length]
    intro j hj
    have hj := List.mem_range.mp hj
    have lt : j < owner.size := by omega
    have n := fun z => c ⟨j, by omega, z⟩
    simp only [Array.getD, lt, dite_true] at n ⊢
    cases e : owner.getInternal j lt with
    | none => rw [e] at n; exact absurd rfl n
    | some v => rfl
  rw [← live_len, o2, List.length_range] at this
  omega
theorem own_put {mask k j : Nat} {owner : Array (Option Nat)} (o : Own mask owner k) (hj : (owner.getD j (some 0)).isNone = true) : Own mask (owner.setIfInBounds j (some k)) (k + 1) := by
  obtain ⟨o1, o2, o3⟩ := o
  have lt : j < owner.size := by
    apply Classical.byContradiction
    intro c
    simp [Array.getD, c] at hj
  have en : owner.getD j none = none := by
    simp only [Array.getD, lt, dite_true] at hj ⊢
    cases e : owner.getInternal j lt with
    | none => rfl
    | some v => rw [e] at hj; cases hj
  refine ⟨by simp [o1], ?_, fun i v e => ?_⟩
  · rw [live_len] at o2 ⊢
    rw [cnt_up (f := fun i => (owner.getD i none).isSome) (j0 := j) (fun i hi => ?_) (by simp only [en]; rfl) ?_ (mask + 1), o2, if_pos (by omega)]
    · show ((owner.setIfInBounds j (some k)).getD j none).isSome = true
      rw [Array.getD_eq_getD_getElem?, Array.getElem?_setIfInBounds_self_of_lt lt]
      rfl
    · show (owner.getD i none).isSome = ((owner.setIfInBounds j (some k)).getD i none).isSome
      rw [Array.getD_eq_getD_getElem?, Array.getD_eq_getD_getElem?, Array.getElem?_setIfInBounds_ne (Ne.symm hi)]
  · by_cases c : j = i
    · subst c
      rw [Array.getElem?_setIfInBounds_self_of_lt lt] at e
      cases e
      omega
    · rw [Array.getElem?_setIfInBounds_ne c] at e
      have := o3 i v e
      omega
end PySem.SetTable
namespace PySem
open SetTable
structure TupKind (prog : Program) (w : World) (κ : Type) where
  is : Heap → κ → Addr → Prop
  hash : κ → Int
  draws : κ → Nat
  room : Around → Prop
  typ : ∀ {s : Shared} {k : κ} {a : Addr}, is s.heap k a → s.TypeIs (.ref a) "tuple"
  keeps : ∀ {h h' : Heap} {k : κ} {a : Addr}, is h k a → (∀ b o, h.get? b = some o → o.cls = .type "tuple" → h'.get? b = some o) → is h' k a
  pyHash : ∀ {A : Around} {E : Value → Shared → Prop} {s : Shared} {k : κ} {a : Addr} {Q : Int → Shared → Prop}, room A → is s.heap k a → Q (hash k) { s with toks := s.toks + draws k } → wpAny (model prog w) A (pyHash (.ref a)) Q E s
  other : ∀ {A : Around} {E : Value → Shared → Prop} {s : Shared} {k l : κ} {a b : Addr} {Q : Bool → Shared → Prop}, room A → is s.heap k a → is s.heap l b → k ≠ l → Q false s → wpAny (model prog w) A (eqBool (.ref a) (.ref b)) Q E s
  quiet : ∀ {A : Around} {E : Value → Shared → Prop} {s : Shared} {k : κ} {a : Addr} {Q : Bool → Shared → Prop}, is s.heap k a → Q true s → wpAny (model prog w) A (eqIsQuiet 8 (.ref a)) Q E s
  noClass : ∀ {A : Around} {E : Value → Shared → Prop} {s : Shared} {k : κ} {a : Addr} {Q : Bool → Shared → Prop}, is s.heap k a → Q false s → wpAny (model prog w) A (ofAClassStatement 8 (.ref a)) Q E s
  byVal : ∀ {A : Around} {E : Value → Shared → Prop} {s : Shared} {k : κ} {a : Addr} {Q : Bool → Shared → Prop}, is s.heap k a → Q true s → wpAny (model prog w) A (hashByValue 8 (.ref a)) Q E s
section
variable {prog : Program} {w : World} {κ : Type} {T : TupKind prog w κ} {A : Around} {E : Value → Shared → Prop} {s : Shared}
theorem not_seen {k : κ} {a : Addr} {Q : Bool → Shared → Prop} (hx : T.is s.heap k a) (q : Q false s) (ys : List Value) (hy : ∀ y ∈ ys, ∃ b l, y = .ref b ∧ T.is s.heap l b) : wpAny (model prog w) A (searchCouldBeSeen (.ref a) ys) Q E s := by
  unfold searchCouldBeSeen
  refine wpAny_bind ?_
  refine wpAny_forIn_list _ (fun rest r s' => r.1 = none ∧ s' = s ∧ ∀ y ∈ rest, ∃ b l, y = .ref b ∧ T.is s.heap l b) _ ?_ ?_ _ _ ⟨rfl, rfl, hy⟩
  · rintro y rest r s' ⟨hr, rfl, hall⟩
    obtain ⟨b, l, rfl, hb⟩ := hall y List.mem_cons_self
    dsimp only
    refine wpAny_ite ?_
    split
    · exact wpAny_pure ⟨rfl, rfl, fun y hy => hall y (List.mem_cons_of_mem _ hy)⟩
    · refine wpAny_bind (T.quiet hx ?_)
      simp only [Bool.not_true, Bool.false_eq_true, if_false]
      refine wpAny_bind (T.quiet hb ?_)
      simp only [Bool.not_true, Bool.false_eq_true, if_false]
      refine wpAny_bind (T.noClass hx ?_)
      simp only [Bool.false_eq_true, if_false]
      refine wpAny_bind (T.noClass hb ?_)
      simp only [Bool.false_eq_true, if_false]
      exact wpAny_pure ⟨rfl, rfl, fun y hy => hall y (List.mem_cons_of_mem _ hy)⟩
  · rintro ⟨r1, r2⟩ s' ⟨hr, rfl, _⟩
    simp only at hr
    subst hr
    exact wpAny_pure q
end
end PySem
namespace PySem
open SetTable
def SetIs {prog : Program} {w : World} {κ : Type} (T : TupKind prog w κ) (h : Heap) (S : Addr) (i : Nat) (key : Nat → κ) : Prop :=
  ∃ o es ep t, h.get? S = some o ∧ o.ExactSet ∧ o.data = .set es ep t ∧ t.Good es.size ∧ es.size = i ∧ ∀ e ∈ es.toList, ∃ b j, j < i ∧ e.2 = .ref b ∧ T.is h (key j) b
section
variable {prog : Program} {w : World} {κ : Type} {T : TupKind prog w κ} {A : Around} {R : Result → Shared → Prop} {I : Addr} {fp wr : List Addr} {G : Array GenState → Array GenState → Prop} {n : Nat} {P : Nat → Value → Prop} {St : Nat → Shared → Prop}
theorem SetIs.moved {s s' : Shared} {S : Addr} {i : Nat} {key : Nat → κ} (h : SetIs T s.heap S i key) (mv : ∀ b o, s.heap.get? b = some o → (b = S ∨ o.cls = .type "tuple") → s'.heap.get? b = some o) : SetIs T s'.heap S i key := by
  obtain ⟨o, es, ep, t, ho, hex, hd, g, sz, he⟩ := h
  refine ⟨o, es, ep, t, mv S o ho (.inl rfl), hex, hd, g, sz, fun e h1 => ?_⟩
  obtain ⟨b, j, h2, h3, h4⟩ := he e h1
  exact ⟨b, j, h2, h3, T.keeps h4 fun b o e c => mv b o e (.inr c)⟩
end
section
variable {prog : Program} {w : World} {κ : Type} {T : TupKind prog w κ} {A : Around} {E : Value → Shared → Prop} {s : Shared}
abbrev set0 (led : Bool) : Obj := { cls := .type "set", dict := none, data := .set #[] 0 (.fresh 0 0 led) }
end
end PySem
namespace PySem
open SetTable
section
variable {prog : Program} {w : World} {A : Around} {E : Value → Shared → Prop} {s : Shared}
theorem items_int {ks : List Int} {vs : List Value} (h : ItemsAre (intKind prog w) ks vs) : ∀ v ∈ vs, ∃ i t, v = .int i t := by
  induction h with
  | nil => intro v hv; cases hv
  | cons h1 _ ih =>
    intro v hv
    rcases List.mem_cons.mp hv with rfl | hv
    · obtain ⟨t, e⟩ := Value.isInt_shape h1
      exact ⟨_, t, e⟩
    · exact ih v hv
theorem tup_noClass {k : List Int} {a : Addr} {Q : Bool → Shared → Prop} (hx : IsTupleKey (intKind prog w) s.heap k a) (q : Q false s) : wpAny (model prog w) A (ofAClassStatement 8 (.ref a)) Q E s := by
  have hT := hx.typeIs
  obtain ⟨o, items, n, ho, _, hd, hi⟩ := hx
  unfold ofAClassStatement
  refine wpAny_bind (wpAny_typeOf hT ?_)
  have e1 : ("tuple" == "tuple") = true := by decide
  simp only [e1, if_true]
  refine wpAny_bind (wpAny_pure ?_)
  simp only [Bool.not_true, Bool.false_eq_true, if_false]
  refine wpAny_bind (wpAny_seqItems ho hd ?_)
  dsimp only
  refine wpAny_bind ?_
  rw [← Array.forIn_toList]
  refine wpAny_forIn_list _ (fun rest r s' => r.1 = none ∧ s' = s ∧ ∀ v ∈ rest, ∃ i t, v = Value.int i t) _ ?_ ?_ _ _ ⟨rfl, rfl, items_int hi⟩
  · rintro v rest r s' ⟨hr, rfl, hall⟩
    obtain ⟨i, t, rfl⟩ := hall v List.mem_cons_self
    refine wpAny_bind (wpAny_pure ?_)
    simp only [Bool.false_eq_true, if_false]
    exact wpAny_pure ⟨rfl, rfl, fun y hy => hall y (List.mem_cons_of_mem _ hy)⟩
  · rintro ⟨r1, r2⟩ s' ⟨hr, rfl, _⟩
    simp only at hr
    subst hr
    exact wpAny_pure q
theorem tup_byVal {k : List Int} {a : Addr} {Q : Bool → Shared → Prop} (hx : IsTupleKey (intKind prog w) s.heap k a) (q : Q true s) : wpAny (model prog w) A (hashByValue 8 (.ref a)) Q E s := by
  have hT := hx.typeIs
  obtain ⟨o, items, n, ho, _, hd, hi⟩ := hx
  unfold hashByValue
  refine wpAny_bind (wpAny_specialOf hT F.slot_tuple_hash.lookup ?_)
  dsimp only
  refine wpAny_bind (wpAny_seqItems ho hd ?_)
  refine wpAny_bind ?_
  show wpAny _ _ (forIn items _ _) _ _ s
  rw [← Array.forIn_toList]
  refine wpAny_forIn_list _ (fun rest r s' => r.1 = none ∧ s' = s ∧ ∀ v ∈ rest, ∃ i t, v = Value.int i t) _ ?_ ?_ _ _ ⟨rfl, rfl, items_int hi⟩
  · rintro v rest r s' ⟨hr, rfl, hall⟩
    obtain ⟨i, t, rfl⟩ := hall v List.mem_cons_self
    refine wpAny_bind (wpAny_pure ?_)
    simp only [Bool.not_true, Bool.false_eq_true, if_false]
    exact wpAny_pure ⟨rfl, rfl, fun y hy => hall y (List.mem_cons_of_mem _ hy)⟩
  · rintro ⟨r1, r2⟩ s' ⟨hr, rfl, _⟩
    simp only at hr
    subst hr
    exact wpAny_pure q
end
def intTup (prog : Program) (w : World) : TupKind prog w (List Int) where
  is := IsTupleKey (intKind prog w)
  hash := tupleKeyHash (intKind prog w)
  draws := fun ks => ks.length + 1
  room := fun A => A.units < cLine
  typ := fun x => x.typeIs
  keeps := fun ⟨o, items, n, ho, hc, hd, hi⟩ k => ⟨o, items, n, k _ o ho hc, hc, hd, hi⟩
  pyHash := fun hu hk h => wpAny_pyHash_tuple hu hk h
  other := fun hu hx hy ne h => wpAny_eqBool_tuple hu hx hy (by rw [decide_eq_false ne]; exact h)
  quiet := fun hk h => wpAny_eqIsQuiet_tuple hk h
  noClass := fun hk h => tup_noClass hk h
  byVal := fun hk h => tup_byVal hk h
end PySem
namespace L3
open PySem PySem.Spec PyProof.Rows L2
theorem at2_key {P : Program} {w : World} {h : Heap} {u : Value} {p : Pl} (a : At2 h u p) : ∃ b, u = .ref b ∧ IsTupleKey (intKind P w) h [p.x, p.y] b := by
  obtain ⟨l, its, rfl, t, n⟩ := a.tup
  obtain ⟨o, ho, hc, m, hd⟩ := t
  refine ⟨l, rfl, o, its, m, ho, hc, hd, ?_⟩
  revert n
  generalize its.toList = vs
  intro n
  cases n with
  | cons i t n1 =>
    cases n1 with
    | cons j t2 n2 =>
      cases n2
      exact .cons (intKind_is _ _ _ _) (.cons (intKind_is _ _ _ _) .nil)
section
variable {X : Cx} {pos : Pos}
theorem boot3_set : bootBuiltins "set" = some (.type "set") := by decide +kernel
end
end L3
namespace PySem
open SetTable
section
variable (prog : Program) (w : World)
inductive RefsAre (h : Heap) : List (List Int) → List Value → Prop
  | nil : RefsAre h [] []
  | cons {k : List Int} {b : Addr} {ks : List (List Int)} {vs : List Value} : IsTupleKey (intKind prog w) h k b → RefsAre h ks vs → RefsAre h (k :: ks) (.ref b :: vs)
def IsTup2 (h : Heap) (ks : List (List Int)) (a : Addr) : Prop := ∃ o items n, h.get? a = some o ∧ o.cls = .type "tuple" ∧ o.data = .seq items n ∧ RefsAre prog w h ks items.toList
end
section
variable {prog : Program} {w : World}
theorem RefsAre.keeps {h h' : Heap} {ks : List (List Int)} {vs : List Value} (x : RefsAre prog w h ks vs) (k : ∀ b o, h.get? b = some o → o.cls = .type "tuple" → h'.get? b = some o) : RefsAre prog w h' ks vs := by
  induction x with
  | nil => exact .nil
  | cons a _ ih => exact .cons ((intTup prog w).keeps a k) ih
theorem IsTup2.typ {s : Shared} {ks : List (List Int)} {a : Addr} (x : IsTup2 prog w s.heap ks a) : s.TypeIs (.ref a) "tuple" := let ⟨o, _, _, ho, hc, _⟩ := x; ⟨o, ho, hc⟩
theorem RefsAre.len {h : Heap} {ks : List (List Int)} {vs : List Value} (x : RefsAre prog w h ks vs) : ks.length = vs.length := by
  induction x with
  | nil => rfl
  | cons _ _ ih => simp [ih]
variable {A : Around} {E : Value → Shared → Prop} {s : Shared}
def drawn2 (ks : List (List Int)) : Nat := (ks.map fun k => k.length + 1).sum + 1
def hash2 (prog : Program) (w : World) (ks : List (List Int)) : Int := reduceHash (Builtin.Tuple.tupleHashOf (ks.map (tupleKeyHash (intKind prog w))))
theorem hash_tup2 {ks : List (List Int)} {a : Addr} {Q : Int → Shared → Prop} (hu : A.units + 8 < cLine) (hk : IsTup2 prog w s.heap ks a) (h : Q (hash2 prog w ks) { s with toks := s.toks + drawn2 ks }) :
    wpAny (model prog w) A (pyHash (.ref a)) Q E s := by
  have hT := hk.typ
  obtain ⟨o, items, n, ho, _, hd, hi⟩ := hk
  unfold pyHash pyHashByItsType
  refine wpAny_bind (wpAny_cRoomFor_or (.inr (by omega)) ?_)
  refine wpAny_bind (wpAny_specialOf hT F.slot_tuple_hash.lookup ?_)
  refine (?_ : wpAny _ _ (if (some (Value.builtin "tuple.__hash__") == some Value.none) = true then _ else _) Q E s)
  rw [if_neg (by rw [beq_builtin_none]; exact Bool.false_ne_true)]
  refine wpAny_bind (wpAny_specialOf hT F.slot_tuple_hash.lookup ?_)
  refine (?_ : wpAny _ _ (callSpecialIfBoundUnlessNone? (.ref a) "__hash__" _ >>= _) Q E s)
  refine wpAny_bind (wpAny_callSpecialIfBoundUnlessNone?_slot hT F.slot_tuple_hash (wpAny_call_entry F.slot_tuple_hash hT F.entry_tuple_hash ?_ (F.args_tuple_hash_1 _)))
  refine (?_ : wpAny _ _ (Builtin.Tuple.tupleItemsOf (.ref a) >>= _) _ _ s)
  refine wpAny_bind (wpAny_tupleItemsOf ho hd (wpAny_bind ?_))
  rw [← Array.forIn_toList]
  refine wpAny_forIn_list _ (fun rest (b : Array Int) s' => ∃ done left, ks = done ++ left ∧ RefsAre prog w s.heap left rest ∧ b.toList = done.map (tupleKeyHash (intKind prog w)) ∧ s' = { s with toks := s.toks + (done.map fun k => k.length + 1).sum }) _ ?_ ?_ _ _ ⟨[], ks, rfl, hi, rfl, rfl⟩
  · rintro x rest b s' ⟨done, left, rfl, hl, hb, rfl⟩
    cases hl with
    | @cons k c ks' _ h1 hl' =>
      refine wpAny_bind (wpAny_pyHash_tuple (s := { s with toks := s.toks + (done.map fun k => k.length + 1).sum }) (by show A.units + 1 < cLine; omega) h1 ?_)
      have fin : ∃ done2 left2, done ++ k :: ks' = done2 ++ left2 ∧ RefsAre prog w s.heap left2 rest ∧ (b.push (tupleKeyHash (intKind prog w) k)).toList = done2.map (tupleKeyHash (intKind prog w)) ∧
          ({ s with toks := s.toks + (done.map fun k => k.length + 1).sum + (k.length + 1) } : Shared) = { s with toks := s.toks + (done2.map fun k => k.length + 1).sum } :=
        ⟨done ++ [k], ks', by simp, hl', by simp [hb], by simp [Nat.add_assoc]⟩
      first
        | exact wpAny_pure fin
        | exact wpAny_bind (wpAny_pure (wpAny_pure fin))
  · rintro b s' ⟨done, left, rfl, hl, hb, rfl⟩
    cases hl
    rw [List.append_nil] at h
    refine (?_ : wpAny _ _ (retInt (Builtin.Tuple.tupleHashOf b.toList)) _ _ _)
    rw [hb]
    refine wpAny_ret_mkInt ?_
    unfold hash2 reduceHash drawn2 at h
    generalize Builtin.Tuple.tupleHashOf (done.map (tupleKeyHash (intKind prog w))) = z at h ⊢
    refine (?_ : wpAny _ _ (if (decide (-(2 : Int) ^ 63 ≤ z) && decide (z < 2 ^ 63)) = true then _ else _) Q E _)
    by_cases c : (decide (-(2 : Int) ^ 63 ≤ z) && decide (z < 2 ^ 63)) = true
    · rw [if_pos c] at h ⊢
      exact wpAny_pure (by simpa [Nat.add_assoc] using h)
    · rw [if_neg c] at h ⊢
      exact wpAny_bind (wpAny_rule (wpAny_pure (by simpa [Nat.add_assoc] using h)))
theorem eq_tree2 {x y : List (List Int)} {a b : Addr} {P : Fin → Shared → Prop} (hu : A.units + 4 < cLine) (hx : IsTup2 prog w s.heap x a) (hy : IsTup2 prog w s.heap y b) (h : P (.done (.ret (.bool (decide (x = y))))) s) :
    wpAny (model prog w) A (Builtin.«tuple.__eq__» ⟨[.ref a, .ref b], []⟩) P E s := by
  have hTb := hy.typ
  obtain ⟨oa, xs, na, hoa, _, hda, hia⟩ := hx
  obtain ⟨ob, ys, nb, hob, _, hdb, hib⟩ := hy
  refine (?_ : wpAny _ _ (isInstance (.ref b) (.type "tuple") >>= _) _ _ s)
  refine wpAny_bind (wpAny_isInstance hTb isSubtype_tuple_tuple ?_)
  simp only [Bool.not_true, Bool.false_eq_true, if_false]
  refine wpAny_bind (wpAny_tupleItemsOf hoa hda (wpAny_bind (wpAny_tupleItemsOf hob hdb (wpAny_bind ?_))))
  refine wpAny_forIn_list _ (fun rest r s' => r.1 = none ∧ s' = s ∧ ∃ x' y' us vs, rest = List.zip us vs ∧ RefsAre prog w s.heap x' us ∧ RefsAre prog w s.heap y' vs ∧ decide (x' = y') = decide (x = y) ∧ (us.length == vs.length) = (xs.size == ys.size)) _ ?_ ?_ _ _ ⟨rfl, rfl, x, y, xs.toList, ys.toList, rfl, hia, hib, rfl, by simp⟩
  · rintro ⟨u, v⟩ rest r s' ⟨hr, rfl, x', y', us, vs, hz, hx', hy', hdec, hlen⟩
    cases hx' with
    | nil => simp at hz
    | @cons k1 c1 x'' us' h1 hx'' =>
      cases hy' with
      | nil => simp at hz
      | @cons k2 c2 y'' vs' h2 hy'' =>
        simp only [List.zip_cons_cons, List.cons.injEq, Prod.mk.injEq] at hz
        obtain ⟨⟨rfl, rfl⟩, rfl⟩ := hz
        refine wpAny_bind (wpAny_eqBool_tuple (by omega) h1 h2 ?_)
        by_cases hk : k1 = k2
        · subst hk
          rw [decide_eq_true rfl]
          simp only [Bool.not_true, Bool.false_eq_true, if_false]
          refine wpAny_pure ⟨rfl, rfl, x'', y'', us', vs', rfl, hx'', hy'', ?_, by simpa using hlen⟩
          rw [← hdec]
          by_cases c : x'' = y'' <;> simp [c]
        · rw [decide_eq_false hk]
          simp only [Bool.not_false, if_true]
          rw [show decide (x = y) = false by rw [← hdec]; simp [hk]] at h
          exact wpAny_bind (wpAny_pure (wpAny_pure (wpAny_pure h)))
  · rintro ⟨r1, r2⟩ s' ⟨hr, rfl, x', y', us, vs, hz, hx', hy', hdec, hlen⟩
    simp only at hr
    subst hr
    refine wpAny_pure ?_
    have hfin : (xs.size == ys.size) = decide (x = y) := by
      rw [← hdec, ← hlen]
      cases hx' with
      | nil => cases hy' <;> simp
      | cons _ _ =>
        cases hy' with
        | nil => simp
        | cons _ _ => simp at hz
    refine (?_ : P (.done (.ret (.bool (xs.size == ys.size)))) s')
    rw [hfin]
    exact h
theorem RefsAre.inj {h : Heap} {x y : List (List Int)} {vs : List Value} (hx : RefsAre prog w h x vs) (hy : RefsAre prog w h y vs) : x = y := by
  induction hx generalizing y with
  | nil => cases hy; rfl
  | cons h1 _ ih =>
    cases hy with
    | cons h2 t2 => rw [h1.inj h2, ih t2]
theorem IsTup2.inj {h : Heap} {a : Addr} {x y : List (List Int)} (hx : IsTup2 prog w h x a) (hy : IsTup2 prog w h y a) : x = y := by
  obtain ⟨o, items, n, ho, _, hd, hi⟩ := hx
  obtain ⟨o', items', n', ho', _, hd', hi'⟩ := hy
  rw [ho] at ho'
  cases ho'
  rw [hd] at hd'
  injection hd' with h1 _
  subst h1
  exact hi.inj hi'
theorem other2 {x y : List (List Int)} {a b : Addr} {Q : Bool → Shared → Prop} (hu : A.units + 8 < cLine) (hx : IsTup2 prog w s.heap x a) (hy : IsTup2 prog w s.heap y b) (ne : x ≠ y) (h : Q false s) :
    wpAny (model prog w) A (eqBool (.ref a) (.ref b)) Q E s := by
  unfold eqBool
  try with_reducible refine wpAny_holding ?_
  refine (?_ : wpAny _ _ (if (Value.ref a == Value.ref b) = true then _ else _) Q E s)
  by_cases hab : (Value.ref a == Value.ref b) = true
  · have e : a = b := by have := eq_of_beq hab; injection this
    subst e
    exact absurd (hx.inj hy) ne
  · rw [if_neg hab]
    exact wpAny_bind (wpAny_richCompare_same_room (op := .Eq) hx.typ hy.typ F.slot_tuple_eq
      (wpAny_call_entry F.slot_tuple_eq hx.typ F.entry_tuple_eq (eq_tree2 (by show A.units + 1 + 4 < cLine; omega) hx hy (by rw [decide_eq_false ne]; exact ⟨_, rfl, (fun e => nomatch e), wpAny_truthy_bool h⟩)) (F.args_tuple_eq_2 _ _)) (by omega))
theorem quiet_at (d : Nat) {k : List Int} {a : Addr} {Q : Bool → Shared → Prop} (hx : IsTupleKey (intKind prog w) s.heap k a) (q : Q true s) : wpAny (model prog w) A (eqIsQuiet (d + 1) (.ref a)) Q E s := by
  have hT := hx.typeIs
  obtain ⟨o, items, n, ho, _, hd, hi⟩ := hx
  unfold eqIsQuiet
  refine wpAny_bind (wpAny_specialOf hT F.slot_tuple_eq.lookup ?_)
  refine (?_ : wpAny _ _ (isInstance (.ref a) (.type "tuple") >>= _) _ _ s)
  refine wpAny_bind (wpAny_isInstance hT isSubtype_tuple_tuple ?_)
  simp only [Bool.not_true, Bool.false_eq_true, if_false]
  refine wpAny_bind (wpAny_seqItems ho hd (wpAny_bind ?_))
  refine (?_ : wpAny _ _ (forIn items _ _) _ _ s)
  rw [← Array.forIn_toList]
  refine wpAny_forIn_list _ (fun rest r s' => r.1 = none ∧ s' = s ∧ ∀ v ∈ rest, carriedByValue v = true) _ ?_ ?_ _ _ ⟨rfl, rfl, hi.byValue⟩
  · rintro v rest r s' ⟨hr, rfl, hall⟩
    rw [eqIsQuiet_byValue _ (hall v List.mem_cons_self)]
    refine wpAny_bind (wpAny_pure ?_)
    simp only [Bool.not_true, Bool.false_eq_true, if_false]
    exact wpAny_pure ⟨rfl, rfl, fun u hu' => hall u (List.mem_cons_of_mem _ hu')⟩
  · rintro ⟨r1, r2⟩ s' ⟨hr, rfl, _⟩
    simp only at hr
    subst hr
    exact wpAny_pure q
theorem RefsAre.all {h : Heap} {x : List (List Int)} {vs : List Value} (hx : RefsAre prog w h x vs) : ∀ v ∈ vs, ∃ b k, v = .ref b ∧ IsTupleKey (intKind prog w) h k b := by
  induction hx with
  | nil => intro v hv; cases hv
  | cons h1 _ ih =>
    intro v hv
    rcases List.mem_cons.mp hv with rfl | hv
    · exact ⟨_, _, rfl, h1⟩
    · exact ih v hv
theorem quiet2 {k : List (List Int)} {a : Addr} {Q : Bool → Shared → Prop} (hx : IsTup2 prog w s.heap k a) (q : Q true s) : wpAny (model prog w) A (eqIsQuiet 8 (.ref a)) Q E s := by
  have hT := hx.typ
  obtain ⟨o, items, n, ho, _, hd, hi⟩ := hx
  unfold eqIsQuiet
  refine wpAny_bind (wpAny_specialOf hT F.slot_tuple_eq.lookup ?_)
  refine (?_ : wpAny _ _ (isInstance (.ref a) (.type "tuple") >>= _) _ _ s)
  refine wpAny_bind (wpAny_isInstance hT isSubtype_tuple_tuple ?_)
  simp only [Bool.not_true, Bool.false_eq_true, if_false]
  refine wpAny_bind (wpAny_seqItems ho hd (wpAny_bind ?_))
  refine (?_ : wpAny _ _ (forIn items _ _) _ _ s)
  rw [← Array.forIn_toList]
  refine wpAny_forIn_list _ (fun rest r s' => r.1 = none ∧ s' = s ∧ ∀ v ∈ rest, ∃ b k, v = Value.ref b ∧ IsTupleKey (intKind prog w) s.heap k b) _ ?_ ?_ _ _ ⟨rfl, rfl, hi.all⟩
  · rintro v rest r s' ⟨hr, rfl, hall⟩
    obtain ⟨b, k, rfl, hb⟩ := hall v List.mem_cons_self
    refine wpAny_bind (quiet_at 6 hb ?_)
    simp only [Bool.not_true, Bool.false_eq_true, if_false]
    exact wpAny_pure ⟨rfl, rfl, fun u hu' => hall u (List.mem_cons_of_mem _ hu')⟩
  · rintro ⟨r1, r2⟩ s' ⟨hr, rfl, _⟩
    simp only at hr
    subst hr
    exact wpAny_pure q
theorem noClass_at (d : Nat) {k : List Int} {a : Addr} {Q : Bool → Shared → Prop} (hx : IsTupleKey (intKind prog w) s.heap k a) (q : Q false s) : wpAny (model prog w) A (ofAClassStatement (d + 1) (.ref a)) Q E s := by
  have hT := hx.typeIs
  obtain ⟨o, items, n, ho, _, hd, hi⟩ := hx
  unfold ofAClassStatement
  refine wpAny_bind (wpAny_typeOf hT ?_)
  have e1 : ("tuple" == "tuple") = true := by decide
  simp only [e1, if_true]
  refine wpAny_bind (wpAny_pure ?_)
  simp only [Bool.not_true, Bool.false_eq_true, if_false]
  refine wpAny_bind (wpAny_seqItems ho hd ?_)
  dsimp only
  refine wpAny_bind ?_
  rw [← Array.forIn_toList]
  refine wpAny_forIn_list _ (fun rest r s' => r.1 = none ∧ s' = s ∧ ∀ v ∈ rest, ∃ i t, v = Value.int i t) _ ?_ ?_ _ _ ⟨rfl, rfl, items_int hi⟩
  · rintro v rest r s' ⟨hr, rfl, hall⟩
    obtain ⟨i, t, rfl⟩ := hall v List.mem_cons_self
    refine wpAny_bind ?_
    unfold ofAClassStatement
    refine wpAny_pure ?_
    simp only [Bool.false_eq_true, if_false]
    exact wpAny_pure ⟨rfl, rfl, fun y hy => hall y (List.mem_cons_of_mem _ hy)⟩
  · rintro ⟨r1, r2⟩ s' ⟨hr, rfl, _⟩
    simp only at hr
    subst hr
    exact wpAny_pure q
theorem noClass2 {k : List (List Int)} {a : Addr} {Q : Bool → Shared → Prop} (hx : IsTup2 prog w s.heap k a) (q : Q false s) : wpAny (model prog w) A (ofAClassStatement 8 (.ref a)) Q E s := by
  have hT := hx.typ
  obtain ⟨o, items, n, ho, _, hd, hi⟩ := hx
  unfold ofAClassStatement
  refine wpAny_bind (wpAny_typeOf hT ?_)
  have e1 : ("tuple" == "tuple") = true := by decide
  simp only [e1, if_true]
  refine wpAny_bind (wpAny_pure ?_)
  simp only [Bool.not_true, Bool.false_eq_true, if_false]
  refine wpAny_bind (wpAny_seqItems ho hd ?_)
  dsimp only
  refine wpAny_bind ?_
  rw [← Array.forIn_toList]
  refine wpAny_forIn_list _ (fun rest r s' => r.1 = none ∧ s' = s ∧ ∀ v ∈ rest, ∃ b k, v = Value.ref b ∧ IsTupleKey (intKind prog w) s.heap k b) _ ?_ ?_ _ _ ⟨rfl, rfl, hi.all⟩
  · rintro v rest r s' ⟨hr, rfl, hall⟩
    obtain ⟨b, k, rfl, hb⟩ := hall v List.mem_cons_self
    refine wpAny_bind (noClass_at 6 hb ?_)
    simp only [Bool.false_eq_true, if_false]
    exact wpAny_pure ⟨rfl, rfl, fun y hy => hall y (List.mem_cons_of_mem _ hy)⟩
  · rintro ⟨r1, r2⟩ s' ⟨hr, rfl, _⟩
    simp only at hr
    subst hr
    exact wpAny_pure q
theorem byVal_at (d : Nat) {k : List Int} {a : Addr} {Q : Bool → Shared → Prop} (hx : IsTupleKey (intKind prog w) s.heap k a) (q : Q true s) : wpAny (model prog w) A (hashByValue (d + 1) (.ref a)) Q E s := by
  have hT := hx.typeIs
  obtain ⟨o, items, n, ho, _, hd, hi⟩ := hx
  unfold hashByValue
  refine wpAny_bind (wpAny_specialOf hT F.slot_tuple_hash.lookup ?_)
  dsimp only
  refine wpAny_bind (wpAny_seqItems ho hd (wpAny_bind ?_))
  refine (?_ : wpAny _ _ (forIn items _ _) _ _ s)
  rw [← Array.forIn_toList]
  refine wpAny_forIn_list _ (fun rest r s' => r.1 = none ∧ s' = s ∧ ∀ v ∈ rest, ∃ i t, v = Value.int i t) _ ?_ ?_ _ _ ⟨rfl, rfl, items_int hi⟩
  · rintro v rest r s' ⟨hr, rfl, hall⟩
    obtain ⟨i, t, rfl⟩ := hall v List.mem_cons_self
    refine wpAny_bind ?_
    unfold hashByValue
    refine wpAny_pure ?_
    simp only [Bool.not_true, Bool.false_eq_true, if_false]
    exact wpAny_pure ⟨rfl, rfl, fun y hy => hall y (List.mem_cons_of_mem _ hy)⟩
  · rintro ⟨r1, r2⟩ s' ⟨hr, rfl, _⟩
    simp only at hr
    subst hr
    exact wpAny_pure q
theorem byVal2 {k : List (List Int)} {a : Addr} {Q : Bool → Shared → Prop} (hx : IsTup2 prog w s.heap k a) (q : Q true s) : wpAny (model prog w) A (hashByValue 8 (.ref a)) Q E s := by
  have hT := hx.typ
  obtain ⟨o, items, n, ho, _, hd, hi⟩ := hx
  unfold hashByValue
  refine wpAny_bind (wpAny_specialOf hT F.slot_tuple_hash.lookup ?_)
  dsimp only
  refine wpAny_bind (wpAny_seqItems ho hd (wpAny_bind ?_))
  refine (?_ : wpAny _ _ (forIn items _ _) _ _ s)
  rw [← Array.forIn_toList]
  refine wpAny_forIn_list _ (fun rest r s' => r.1 = none ∧ s' = s ∧ ∀ v ∈ rest, ∃ b k, v = Value.ref b ∧ IsTupleKey (intKind prog w) s.heap k b) _ ?_ ?_ _ _ ⟨rfl, rfl, hi.all⟩
  · rintro v rest r s' ⟨hr, rfl, hall⟩
    obtain ⟨b, k, rfl, hb⟩ := hall v List.mem_cons_self
    refine wpAny_bind (byVal_at 6 hb ?_)
    simp only [Bool.not_true, Bool.false_eq_true, if_false]
    exact wpAny_pure ⟨rfl, rfl, fun y hy => hall y (List.mem_cons_of_mem _ hy)⟩
  · rintro ⟨r1, r2⟩ s' ⟨hr, rfl, _⟩
    simp only at hr
    subst hr
    exact wpAny_pure q
end
def tupTup (prog : Program) (w : World) : TupKind prog w (List (List Int)) where
  is := IsTup2 prog w
  hash := hash2 prog w
  draws := drawn2
  room := fun A => A.units + 8 < cLine
  typ := fun x => x.typ
  keeps := fun ⟨o, items, n, ho, hc, hd, hi⟩ k => ⟨o, items, n, k _ o ho hc, hc, hd, hi.keeps k⟩
  pyHash := fun hu hk h => hash_tup2 hu hk h
  other := fun hu hx hy ne h => other2 hu hx hy ne h
  quiet := fun hk h => quiet2 hk h
  noClass := fun hk h => noClass2 hk h
  byVal := fun hk h => byVal2 hk h
end PySem
namespace L3
open PySem PySem.Spec PyProof.Rows L2
def keyT (w : List Pl) : List (List Int) := w.map fun p => [p.x, p.y]
theorem keyT_inj : ∀ {w v : List Pl}, keyT w = keyT v → w = v
  | [], [], _ => rfl
  | [], _ :: _, h => by cases h
  | _ :: _, [], h => by cases h
  | p :: w, q :: v, h => by
    injection h with h1 h2
    injection h1 with h3 h1
    injection h1 with h4 _
    rw [keyT_inj h2]
    cases p; cases q
    simp only at h3 h4
    rw [h3, h4]
theorem refs_of {P : Program} {w : World} {h : Heap} : ∀ {us : List Value} {ps : List Pl}, PlsAt h us ps → RefsAre P w h (keyT ps) us
  | _, _, .nil => .nil
  | _, _, .cons a r => by
    obtain ⟨b, rfl, k⟩ := at2_key (P := P) (w := w) a
    exact .cons k (refs_of r)
theorem tup2_of {P : Program} {w : World} {K : PySem.W.Frag} {H : Hp} {h : Heap} {t : List Pl} {x : V} {u : Value} (ok : HOk P w H h) (d : Dat K H (tD t) x) (r : RelV x u) : ∃ b, u = .ref b ∧ IsTup2 P w h (keyT t) b := by
  obtain ⟨a, xs, rfl, ha, hx⟩ := dat_tup.mp d
  obtain rfl : u = Value.ref a := r
  obtain ⟨its, rv, ⟨o, h1, h2, n, h3⟩, _⟩ := tup_at ok ha
  exact ⟨a, rfl, o, its.toArray, n, h1, h2, h3, by rw [List.toList_toArray]; exact refs_of (plsAt_of ok hx rv)⟩
theorem tups_get {P : Program} {w : World} {K : PySem.W.Frag} {H : Hp} {h : Heap} (ok : HOk P w H h) : ∀ {ts : List (List Pl)} {xs : List V} {us : List Value}, Dats K H (ts.map tD) xs → Vals xs us → ∀ (i : Nat) (u : Value), us[i]? = some u → ∃ t, ts[i]? = some t ∧ ∃ b, u = .ref b ∧ IsTup2 P w h (keyT t) b
  | [], xs, us, d, r, i, u, e => by
    rw [dats_nil.mp d] at r
    cases r
    simp at e
  | t :: ts, xs, us, d, r, i, u, e => by
    obtain ⟨v, vs, rfl, d1, d2⟩ := dats_cons.mp d
    cases r with
    | cons r rr =>
      cases i with
      | zero =>
        simp at e
        subst e
        exact ⟨t, rfl, tup2_of ok d1 r⟩
      | succ i => exact tups_get ok d2 rr i u (by simpa using e)
section
variable {X : Cx} {pos : Pos}
end
end L3
namespace PySem.SetTable
def Rise (xs : Array Nat) : Prop := ∀ (i j a b : Nat), i < j → xs[i]? = some a → xs[j]? = some b → a < b
theorem rise_nil : Rise #[] := fun i j a b _ h _ => by simp at h
theorem below_go {xs : Array Nat} (r : Rise xs) (j : Nat) : ∀ (fuel lo hi : Nat), hi - lo ≤ fuel → lo ≤ hi → hi ≤ xs.size → (∀ i a, i < lo → xs[i]? = some a → a < j) → (∀ i a, hi ≤ i → xs[i]? = some a → j ≤ a) →
    below.go xs j fuel lo hi ≤ xs.size ∧ (∀ i a, i < below.go xs j fuel lo hi → xs[i]? = some a → a < j) ∧ ∀ i a, below.go xs j fuel lo hi ≤ i → xs[i]? = some a → j ≤ a := by
  intro fuel
  induction fuel with
  | zero =>
    intro lo hi h1 h2 h3 h4 h5
    obtain rfl : lo = hi := by omega
    exact ⟨h3, h4, h5⟩
  | succ f ih =>
    intro lo hi h1 h2 h3 h4 h5
    unfold below.go
    by_cases c : lo < hi
    · rw [if_pos c]
      have hm : (lo + hi) / 2 < xs.size := by omega
      have em : xs[(lo + hi) / 2]? = some xs[(lo + hi) / 2] := Array.getElem?_eq_getElem hm
      dsimp only
      rw [Array.getD_eq_getD_getElem?, em, Option.getD_some]
      by_cases d : xs[(lo + hi) / 2] < j
      · rw [if_pos d]
        refine ih _ _ (by omega) (by omega) h3 (fun i a hi2 e => ?_) h5
        by_cases z : i = (lo + hi) / 2
        · subst z
          rw [em] at e
          cases e
          exact d
        · exact Nat.lt_trans (r i _ a _ (by omega) e em) d
      · rw [if_neg d]
        refine ih _ _ (by omega) (by omega) (by omega) h4 fun i a hi2 e => ?_
        by_cases z : i = (lo + hi) / 2
        · subst z
          rw [em] at e
          cases e
          omega
        · have := r _ i _ a (by omega) em e
          omega
    · rw [if_neg c]
      obtain rfl : lo = hi := by omega
      exact ⟨h3, h4, h5⟩
theorem below_spec {xs : Array Nat} (r : Rise xs) (j : Nat) : below xs j ≤ xs.size ∧ (∀ i a, i < below xs j → xs[i]? = some a → a < j) ∧ ∀ i a, below xs j ≤ i → xs[i]? = some a → j ≤ a :=
  below_go r j _ _ _ (Nat.le_refl _) (Nat.zero_le _) (Nat.le_refl _) (fun i a h _ => absurd h (Nat.not_lt_zero _)) fun i a h e => by
    have := (Array.getElem?_eq_some_iff.mp e).1
    omega
def Occ (t : SetTable) (j : Nat) : Prop := ∃ i : Nat, t.place[i]? = some j
theorem below_at {xs : Array Nat} (r : Rise xs) {i j : Nat} (h : xs[i]? = some j) : below xs j = i := by
  obtain ⟨h1, h2, h3⟩ := below_spec r j
  rcases Nat.lt_trichotomy (below xs j) i with c | c | c
  · have hb : below xs j < xs.size := by
      have := (Array.getElem?_eq_some_iff.mp h).1
      omega
    have eb : xs[below xs j]? = some xs[below xs j] := Array.getElem?_eq_getElem hb
    have a := h3 _ _ (Nat.le_refl _) eb
    have b := r _ _ _ _ c eb h
    omega
  · exact c
  · have := h2 i j c h
    omega
theorem slot_live {t : SetTable} (r : Rise t.place) {i j : Nat} (h : t.place[i]? = some j) : t.slot j = .live i := by
  unfold slot
  dsimp only
  rw [below_at r h, h]
  simp
theorem slot_occ {t : SetTable} (r : Rise t.place) {j : Nat} (h : Occ t j) : t.slot j ≠ .empty := by
  obtain ⟨i, e⟩ := h
  rw [slot_live r e]
  intro z
  cases z
theorem occ_slot {t : SetTable} (hd : t.dummies = #[]) {j : Nat} (h : t.slot j ≠ .empty) : Occ t j := by
  rcases slot_two hd j with e | ⟨i, _, e⟩
  · exact absurd e h
  · exact ⟨i, e⟩
theorem insert_get {α : Type} (xs : Array α) {p : Nat} (hp : p ≤ xs.size) (x : α) (i : Nat) : (insertAt xs p x)[i]? = if i < p then xs[i]? else if i = p then some x else xs[i - 1]? := by
  have e : (insertAt xs p x).toList = xs.toList.take p ++ x :: xs.toList.drop p := by
    unfold insertAt
    rw [Array.toList_append, Array.toList_push, Array.toList_extract, Array.toList_extract]
    simp
    exact List.take_of_length_le (by rw [List.length_drop, Array.length_toList]; exact Nat.le_refl _)
  rw [← Array.getElem?_toList, e]
  have lt : (xs.toList.take p).length = p := by rw [List.length_take, Array.length_toList]; omega
  by_cases h1 : i < p
  · rw [if_pos h1, List.getElem?_append_left (by omega), List.getElem?_take_of_lt h1, Array.getElem?_toList]
  · rw [if_neg h1, List.getElem?_append_right (by omega), lt]
    by_cases h2 : i = p
    · subst h2
      rw [if_pos rfl, Nat.sub_self]
      rfl
    · rw [if_neg h2, show i - p = (i - p - 1) + 1 by omega, List.getElem?_cons_succ, List.getElem?_drop, Array.getElem?_toList]
      congr 1
      omega
theorem rise_insert {xs : Array Nat} (r : Rise xs) {j : Nat} (n : ∀ i : Nat, xs[i]? ≠ some j) : Rise (insertAt xs (below xs j) j) := by
  obtain ⟨h1, h2, h3⟩ := below_spec r j
  have h3' : ∀ i a, below xs j ≤ i → xs[i]? = some a → j < a := fun i a h e => by
    have := h3 i a h e
    rcases Nat.lt_or_ge j a with c | c
    · exact c
    · exact absurd (show xs[i]? = some j by rw [e]; congr 1; omega) (n i)
  intro i k a b hik ha hb
  rw [insert_get xs h1] at ha hb
  by_cases c1 : i < below xs j
  · rw [if_pos c1] at ha
    by_cases c2 : k < below xs j
    · rw [if_pos c2] at hb
      exact r i k a b hik ha hb
    · rw [if_neg c2] at hb
      by_cases c3 : k = below xs j
      · rw [if_pos c3] at hb
        cases hb
        exact h2 i a c1 ha
      · rw [if_neg c3] at hb
        exact r i (k - 1) a b (by omega) ha hb
  · rw [if_neg c1] at ha
    have c2 : ¬ k < below xs j := by omega
    have c3 : ¬ k = below xs j := by omega
    rw [if_neg c2, if_neg c3] at hb
    by_cases c4 : i = below xs j
    · rw [if_pos c4] at ha
      cases ha
      exact h3' (k - 1) b (by omega) hb
    · rw [if_neg c4] at ha
      exact r (i - 1) (k - 1) a b (by omega) ha hb
theorem adv_mask {t u : SetTable} (h : t.mask = u.mask) : ∀ (k : Nat) (p : Probe), adv k t p = adv k u p
  | 0, _ => rfl
  | k + 1, p => by
    show adv k t (t.advance p) = adv k u (u.advance p)
    have e : t.advance p = u.advance p := by unfold advance; rw [h]
    rw [e]
    exact adv_mask h k _
theorem start_mask {t u : SetTable} (h : t.mask = u.mask) (x : Int) : t.probeStart x = u.probeStart x := by unfold probeStart; rw [h]
def Way (t : SetTable) (occ : Nat → Prop) (h : Int) (j : Nat) : Prop := ∃ K, K < 10 * turns t.mask ∧ (adv K t (t.probeStart h)).j = j ∧ ∀ m, m < K → occ (adv m t (t.probeStart h)).j
theorem Way.mono {t u : SetTable} {occ occ' : Nat → Prop} {h : Int} {j : Nat} (w : Way t occ h j) (hm : t.mask = u.mask) (ho : ∀ x, occ x → occ' x) : Way u occ' h j := by
  obtain ⟨K, h1, h2, h3⟩ := w
  refine ⟨K, by rw [← hm]; exact h1, ?_, fun m hmK => ho _ ?_⟩
  · rw [← adv_mask hm, ← start_mask hm]
    exact h2
  · rw [← adv_mask hm, ← start_mask hm]
    exact h3 m hmK
structure Reach (t : SetTable) (es : Array (Int × Value)) : Prop where
  rise : Rise t.place
  at_ : ∀ (i : Nat) (e : Int × Value), es[i]? = some e → ∃ j, t.place[i]? = some j ∧ Way t (Occ t) e.1 j
theorem reach_put {t : SetTable} {es : Array (Int × Value)} {n : Nat} (g : Good t n) (he : es.size = n) (r : Reach t es) {h : Int} {v : Value} {j : Nat} (nj : ¬ Occ t j) (w : Way t (Occ t) h j) : Reach (t.put j).1 (insertAt es (t.put j).2 (h, v)) := by
  have hp : below t.place j ≤ t.place.size := (below_spec r.rise j).1
  have hpe : below t.place j ≤ es.size := by rw [he, ← g.1]; exact hp
  have keep : ∀ x, Occ t x → Occ (t.put j).1 x := fun x ⟨i, e⟩ => by
    by_cases c : i < below t.place j
    · exact ⟨i, by show (insertAt t.place (below t.place j) j)[i]? = _; rw [insert_get _ hp, if_pos c]; exact e⟩
    · refine ⟨i + 1, ?_⟩
      show (insertAt t.place (below t.place j) j)[i + 1]? = _
      rw [insert_get _ hp, if_neg (by omega), if_neg (by omega)]
      exact e
  refine ⟨rise_insert r.rise fun i e => nj ⟨i, e⟩, fun i e hi => ?_⟩
  show ∃ k, (insertAt t.place (below t.place j) j)[i]? = some k ∧ _
  have hi : (insertAt es (below t.place j) (h, v))[i]? = some e := hi
  rw [insert_get _ hpe] at hi
  rw [insert_get _ hp]
  by_cases c1 : i < below t.place j
  · rw [if_pos c1] at hi ⊢
    obtain ⟨k, h1, h2⟩ := r.at_ i e hi
    exact ⟨k, h1, h2.mono rfl keep⟩
  · rw [if_neg c1] at hi ⊢
    by_cases c2 : i = below t.place j
    · rw [if_pos c2] at hi ⊢
      cases hi
      exact ⟨j, rfl, w.mono rfl keep⟩
    · rw [if_neg c2] at hi ⊢
      obtain ⟨k, h1, h2⟩ := r.at_ (i - 1) e hi
      exact ⟨k, h1, h2.mono rfl keep⟩
theorem adv_run (t : SetTable) : ∀ (k : Nat) (p : Probe), k ≤ p.more → (adv k t p).j = p.j + k ∧ (adv k t p).more = p.more - k
  | 0, p, _ => ⟨rfl, rfl⟩
  | k + 1, p, h => by
    have e : t.advance p = { p with j := p.j + 1, more := p.more - 1 } := by unfold advance; rw [if_pos (by omega)]
    obtain ⟨h1, h2⟩ := adv_run t k { p with j := p.j + 1, more := p.more - 1 } (by show k ≤ p.more - 1; omega)
    refine ⟨?_, ?_⟩
    · show (adv k t (t.advance p)).j = _
      rw [e, h1]
      show p.j + 1 + k = _
      omega
    · show (adv k t (t.advance p)).more = _
      rw [e, h2]
      show p.more - 1 - k = _
      omega
theorem free_way {t : SetTable} {owner : Array (Option Nat)} : ∀ (fuel i q j : Nat) (p : Probe), p.j = i → p.i = i → p.perturb = q → p.more = runEnd t.mask i - i → layClean.free t.mask owner fuel i q = some j →
    ∃ K, K < 10 * fuel ∧ (adv K t p).j = j ∧ (owner.getD j (some 0)).isNone = true ∧ ∀ m, m < K → (owner.getD (adv m t p).j (some 0)).isNone = false
  | 0, i, q, j, p, _, _, _, _, h => by cases h
  | fuel + 1, i, q, j, p, hj, hi, hq, hm, h => by
    unfold layClean.free at h
    have r9 := run_le t.mask i
    have ri : i ≤ runEnd t.mask i := by unfold runEnd; split <;> omega
    split at h
    · rename_i k hk
      cases h
      have k1 : k < runEnd t.mask i + 1 - i := List.mem_range.mp (List.mem_of_find?_eq_some hk)
      have k2 := List.find?_some (p := fun k => (owner.getD (i + k) (some 0)).isNone) hk
      have a := adv_run t k p (by omega)
      refine ⟨k, by omega, by rw [a.1, hj], k2, fun m hmk => ?_⟩
      have b := adv_run t m p (by omega)
      rw [b.1, hj]
      have := List.find?_range_eq_some.mp hk
      obtain ⟨_, _, h3⟩ := this
      have := h3 m hmk
      simpa using this
    · rename_i hk
      have all : ∀ k, k ≤ p.more → (owner.getD (i + k) (some 0)).isNone = false := fun k hk2 => by
        exact Bool.eq_false_iff.mpr (List.find?_eq_none.mp hk k (List.mem_range.mpr (by omega)))
      have e := adv_lp t p.more p rfl
      have hl : (leap t.mask i q) = ((leap t.mask i q).1, (leap t.mask i q).2) := rfl
      obtain ⟨K, h1, h2, h3, h4⟩ := free_way fuel (leap t.mask i q).1 (leap t.mask i q).2 j (lpP t p) (by unfold lpP; rw [hi, hq]) (by unfold lpP; rw [hi, hq]) (by unfold lpP; rw [hi, hq]) (by unfold lpP; rw [hi, hq]) h
      refine ⟨p.more + 1 + K, by omega, ?_, h3, fun m hmK => ?_⟩
      · rw [adv_add, e]
        exact h2
      · by_cases c : m ≤ p.more
        · rw [(adv_run t m p c).1, hj]
          exact all m c
        · have := h4 (m - (p.more + 1)) (by omega)
          rw [← e, ← adv_add, show p.more + 1 + (m - (p.more + 1)) = m by omega] at this
          exact this
theorem runEnd_le {mask i : Nat} (h : i ≤ mask) : i ≤ runEnd mask i ∧ runEnd mask i ≤ mask := by
  unfold runEnd
  split <;> omega
theorem adv_in (t : SetTable) : ∀ (k : Nat) (p : Probe), p.j + p.more ≤ t.mask → (adv k t p).j ≤ t.mask
  | 0, p, h => by show p.j ≤ _; omega
  | k + 1, p, h => by
    refine adv_in t k (t.advance p) ?_
    unfold advance
    split
    · show p.j + 1 + (p.more - 1) ≤ _
      omega
    · have a : (leap t.mask p.i p.perturb).1 ≤ t.mask := by
        unfold leap
        exact Nat.le_of_lt_succ (Nat.mod_lt _ (Nat.succ_pos _))
      have b := runEnd_le a
      show (leap t.mask p.i p.perturb).1 + (runEnd t.mask (leap t.mask p.i p.perturb).1 - (leap t.mask p.i p.perturb).1) ≤ _
      omega
theorem start_in (t : SetTable) (h : Int) : (t.probeStart h).j + (t.probeStart h).more ≤ t.mask := by
  have a : bits h % (t.mask + 1) ≤ t.mask := Nat.le_of_lt_succ (Nat.mod_lt _ (Nat.succ_pos _))
  have b := runEnd_le a
  show bits h % (t.mask + 1) + (runEnd t.mask (bits h % (t.mask + 1)) - bits h % (t.mask + 1)) ≤ _
  omega
def OccO (owner : Array (Option Nat)) (x : Nat) : Prop := ∃ v, owner[x]? = some (some v)
structure Laid (t : SetTable) (owner : Array (Option Nat)) (done : List Int) : Prop where
  own : Own t.mask owner done.length
  way : ∀ (j v : Nat), owner[j]? = some (some v) → ∃ h, done[v]? = some h ∧ Way t (OccO owner) h j
  all : ∀ v, v < done.length → ∃ j : Nat, owner[j]? = some (some v)
theorem laid_nil (t : SetTable) : Laid t (Array.replicate (t.mask + 1) none) [] := by
  refine ⟨own_nil _, fun j v e => ?_, fun v h => absurd h (Nat.not_lt_zero _)⟩
  rw [Array.getElem?_replicate] at e
  split at e <;> cases e
theorem laid_put {t : SetTable} {owner : Array (Option Nat)} {done : List Int} (L : Laid t owner done) {h : Int} {j : Nat} (hf : layClean.free t.mask owner (turns t.mask) (bits h % (t.mask + 1)) (bits h) = some j) (fj : (owner.getD j (some 0)).isNone = true) :
    Laid t (owner.setIfInBounds j (some done.length)) (done ++ [h]) := by
  have lt : j < owner.size := by
    apply Classical.byContradiction
    intro c
    simp [Array.getD, c] at fj
  have ej : owner[j]? = some none := by
    rw [Array.getD_eq_getD_getElem?, Array.getElem?_eq_getElem lt, Option.getD_some] at fj
    rw [Array.getElem?_eq_getElem lt, Option.isNone_iff_eq_none.mp fj]
  have self : (owner.setIfInBounds j (some done.length))[j]? = some (some done.length) := Array.getElem?_setIfInBounds_self_of_lt lt
  have other : ∀ x, x ≠ j → (owner.setIfInBounds j (some done.length))[x]? = owner[x]? := fun x hx => Array.getElem?_setIfInBounds_ne (Ne.symm hx)
  have keep : ∀ x, OccO owner x → OccO (owner.setIfInBounds j (some done.length)) x := fun x ⟨v, e⟩ => by
    have hx : x ≠ j := fun z => by rw [z, ej] at e; cases e
    exact ⟨v, by rw [other x hx]; exact e⟩
  refine ⟨by rw [List.length_append, List.length_singleton]; exact own_put L.own fj, fun x v e => ?_, fun v hv => ?_⟩
  · by_cases hx : x = j
    · subst hx
      rw [self] at e
      cases e
      obtain ⟨K, h1, h2, _, h4⟩ := free_way (turns t.mask) _ _ _ (t.probeStart h) rfl rfl rfl rfl hf
      refine ⟨h, by simp, K, h1, h2, fun m hm => keep _ ?_⟩
      have a := h4 m hm
      have b := adv_in t m _ (start_in t h)
      have c : (adv m t (t.probeStart h)).j < owner.size := by rw [L.own.1]; omega
      rw [Array.getD_eq_getD_getElem?, Array.getElem?_eq_getElem c, Option.getD_some] at a
      cases q : owner[(adv m t (t.probeStart h)).j] with
      | none => rw [q] at a; cases a
      | some v => exact ⟨v, by rw [Array.getElem?_eq_getElem c, q]⟩
    · rw [other x hx] at e
      obtain ⟨h', h1, h2⟩ := L.way x v e
      refine ⟨h', ?_, h2.mono rfl keep⟩
      rw [List.getElem?_append_left (List.getElem?_eq_some_iff.mp h1).1]
      exact h1
  · rw [List.length_append, List.length_singleton] at hv
    by_cases c : v < done.length
    · obtain ⟨x, e⟩ := L.all v c
      have hx : x ≠ j := fun z => by rw [z, ej] at e; cases e
      exact ⟨x, by rw [other x hx]; exact e⟩
    · obtain rfl : v = done.length := by omega
      exact ⟨j, self⟩
theorem laid_all {t : SetTable} (R : Round t.mask) : ∀ (hs done : List Int) (owner : Array (Option Nat)), Laid t owner done → done.length + hs.length ≤ t.mask + 1 →
    ∃ o', hs.foldl (fun acc h => do let (owner, k) ← acc; let j ← layClean.free t.mask owner (turns t.mask) (bits h % (t.mask + 1)) (bits h); pure (owner.setIfInBounds j (some k), k + 1)) (some (owner, done.length)) = some (o', done.length + hs.length) ∧ Laid t o' (done ++ hs)
  | [], done, owner, L, _ => ⟨owner, rfl, by rw [List.append_nil]; exact L⟩
  | h :: hs, done, owner, L, hl => by
    rw [List.length_cons] at hl
    obtain ⟨j0, hj0, e0⟩ := own_free L.own (by omega)
    obtain ⟨j, ej, fj⟩ := free_found R hj0 e0 h
    obtain ⟨o', e', L'⟩ := laid_all R hs (done ++ [h]) _ (laid_put L ej fj) (by rw [List.length_append, List.length_singleton]; omega)
    rw [List.append_assoc] at L'
    refine ⟨o', ?_, L'⟩
    rw [List.length_append, List.length_singleton] at e'
    rw [List.foldl_cons, List.length_cons, show done.length + (hs.length + 1) = done.length + 1 + hs.length by omega, ← e']
    simp [ej]
theorem live_get {mask : Nat} {owner : Array (Option Nat)} {x v : Nat} : (x, v) ∈ live mask owner ↔ x ≤ mask ∧ owner[x]? = some (some v) := by
  unfold live
  rw [List.mem_filterMap]
  constructor
  · rintro ⟨y, hy, e⟩
    rw [Array.getD_eq_getD_getElem?] at e
    have hy := List.mem_range.mp hy
    cases q : owner[y]? with
    | none => rw [q] at e; cases e
    | some z =>
      rw [q] at e
      cases z with
      | none => cases e
      | some z =>
        cases e
        exact ⟨by omega, q⟩
  · rintro ⟨h1, h2⟩
    refine ⟨x, List.mem_range.mpr (by omega), ?_⟩
    rw [Array.getD_eq_getD_getElem?, h2]
    rfl
theorem live_rise (mask : Nat) (owner : Array (Option Nat)) : ((live mask owner).map (·.1)).Pairwise (· < ·) := by
  unfold live
  rw [List.map_filterMap]
  have key : ∀ l : List Nat, l.Pairwise (· < ·) → ((l.filterMap fun j => ((owner.getD j none).map (j, ·)).map (·.1)).Pairwise (· < ·)) := fun l => by
    intro hp
    refine List.Pairwise.filterMap _ (fun a b hab c hc d hd => ?_) hp
    cases q : owner.getD a none with
    | none => rw [q] at hc; cases hc
    | some z =>
      rw [q] at hc
      cases hc
      cases q2 : owner.getD b none with
      | none => rw [q2] at hd; cases hd
      | some z =>
        rw [q2] at hd
        cases hd
        exact hab
  exact key _ List.pairwise_lt_range
theorem filterMap_at {α β : Type} {f : α → Option β} : ∀ {l : List α}, (∀ a ∈ l, (f a).isSome = true) → ∀ i : Nat, (l.filterMap f)[i]? = (l[i]?).bind f
  | [], _, i => by simp
  | a :: l, h, i => by
    obtain ⟨b, hb⟩ := Option.isSome_iff_exists.mp (h a List.mem_cons_self)
    rw [List.filterMap_cons, hb]
    cases i with
    | zero => simp [hb]
    | succ i =>
      simp only [List.getElem?_cons_succ]
      exact filterMap_at (fun x hx => h x (List.mem_cons_of_mem _ hx)) i
theorem relaid_reach {t : SetTable} {es : Array (Int × Value)} {wanted : Nat} (hm : MaskOk (sizeAbove wanted - 1)) (hn : es.size * 5 < (sizeAbove wanted - 1) * 3) :
    ∃ t' order, t.relaid (es.map (·.1)) wanted = some (t', order) ∧ Good t' es.size ∧ order.size = es.size ∧ (∀ v ∈ order, v < es.size) ∧ Reach t' (order.filterMap (es[·]?)) ∧ (∀ e ∈ es.toList, e ∈ (order.filterMap (es[·]?)).toList) ∧ t'.led = t.led ∧ t'.plain = t.plain := by
  obtain ⟨u, hu⟩ : ∃ u : SetTable, u.mask = sizeAbove wanted - 1 := ⟨{ t with mask := sizeAbove wanted - 1 }, rfl⟩
  have R : Round u.mask := by rw [hu]; exact hm.round
  obtain ⟨o', e, L⟩ := laid_all R (es.map (·.1)).toList [] _ (laid_nil u) (by rw [List.length_nil, Array.length_toList, Array.size_map]; omega)
  rw [List.nil_append] at L
  have oo := L.own
  have hlen : (es.map (·.1)).toList.length = es.size := by rw [Array.length_toList, Array.size_map]
  rw [hlen] at oo
  rw [hu, List.length_nil] at e
  rw [hu] at oo
  have vlt : ∀ v ∈ ((live (sizeAbove wanted - 1) o').map (·.2)), v < es.size := fun v hv => by
    obtain ⟨⟨x, y⟩, h1, rfl⟩ := List.mem_map.mp hv
    exact oo.2.2 _ _ (live_get.mp h1).2
  unfold relaid laid layClean
  rw [← Array.foldl_toList, e]
  refine ⟨_, _, rfl, ⟨?_, rfl, hm, hn⟩, ?_, fun v hv => ?_, ⟨?_, fun i e1 h1 => ?_⟩, fun e1 h1 => ?_, rfl, rfl⟩
  · show (List.map _ (live _ o')).toArray.size = _
    rw [List.size_toArray, List.length_map, oo.2.1]
  · show (List.map _ (live _ o')).toArray.size = _
    rw [List.size_toArray, List.length_map, oo.2.1]
  · exact vlt v (Array.mem_toList_iff.mpr hv)
  · intro i j a b hij ha hb
    have ha : ((live (sizeAbove wanted - 1) o').map (·.1)).toArray[i]? = some a := ha
    have hb : ((live (sizeAbove wanted - 1) o').map (·.1)).toArray[j]? = some b := hb
    rw [List.getElem?_toArray] at ha hb
    have p := live_rise (sizeAbove wanted - 1) o'
    obtain ⟨l1, ea⟩ := List.getElem?_eq_some_iff.mp ha
    obtain ⟨l2, eb⟩ := List.getElem?_eq_some_iff.mp hb
    rw [← ea, ← eb]
    exact List.pairwise_iff_getElem.mp p i j l1 l2 hij
  · have h1 : (((live (sizeAbove wanted - 1) o').map (·.2)).toArray.filterMap (es[·]?))[i]? = some e1 := h1
    rw [← Array.getElem?_toList, Array.toList_filterMap, filterMap_at (fun v hv => by rw [Array.getElem?_eq_getElem (vlt v hv)]; rfl)] at h1
    obtain ⟨v, h2, h3⟩ := Option.bind_eq_some_iff.mp h1
    have h2 : ((live (sizeAbove wanted - 1) o').map (·.2))[i]? = some v := h2
    rw [List.getElem?_map] at h2
    cases q : (live (sizeAbove wanted - 1) o')[i]? with
    | none => rw [q] at h2; cases h2
    | some xv =>
      obtain ⟨x, v'⟩ := xv
      rw [q] at h2
      obtain rfl : v' = v := Option.some.inj h2
      refine ⟨x, ?_, ?_⟩
      · show ((live (sizeAbove wanted - 1) o').map (·.1)).toArray[i]? = some x
        rw [List.getElem?_toArray, List.getElem?_map, q]
        rfl
      · obtain ⟨h4, h5⟩ := live_get.mp (List.mem_of_getElem? q)
        obtain ⟨h, h6, h7⟩ := L.way x v' h5
        have eh : h = e1.1 := by
          rw [Array.getElem?_toList, Array.getElem?_map, h3] at h6
          exact (Option.some.inj h6).symm
        subst eh
        refine h7.mono hu fun y ⟨w, hw⟩ => ?_
        have hy : y ≤ sizeAbove wanted - 1 := by
          have := (Array.getElem?_eq_some_iff.mp hw).1
          rw [oo.1] at this
          omega
        obtain ⟨k, hk⟩ := List.getElem?_of_mem (live_get.mpr ⟨hy, hw⟩)
        refine ⟨k, ?_⟩
        show ((live (sizeAbove wanted - 1) o').map (·.1)).toArray[k]? = some y
        rw [List.getElem?_toArray, List.getElem?_map, hk]
        rfl
  · obtain ⟨v, hv⟩ := List.getElem?_of_mem h1
    rw [Array.getElem?_toList] at hv
    have lv := (Array.getElem?_eq_some_iff.mp hv).1
    obtain ⟨x, hx⟩ := L.all v (by rw [hlen]; exact lv)
    have hxm : x ≤ sizeAbove wanted - 1 := by
      have := (Array.getElem?_eq_some_iff.mp hx).1
      rw [oo.1] at this
      omega
    show e1 ∈ (((live (sizeAbove wanted - 1) o').map (·.2)).toArray.filterMap (es[·]?)).toList
    rw [Array.toList_filterMap, List.mem_filterMap]
    exact ⟨v, List.mem_map.mpr ⟨(x, v), live_get.mpr ⟨hxm, hx⟩, rfl⟩, hv⟩
end PySem.SetTable
namespace PySem
open SetTable
structure TupSame {prog : Program} {w : World} {κ : Type} (T : TupKind prog w κ) : Prop where
  same : ∀ {A : Around} {E : Value → Shared → Prop} {s : Shared} {k : κ} {a b : Addr} {Q : Bool → Shared → Prop}, T.room A → T.is s.heap k a → T.is s.heap k b → Q true s → wpAny (model prog w) A (eqBool (.ref a) (.ref b)) Q E s
theorem go_ends3 {t : SetTable} {hashAt : Nat → Int} {h : Int} (hd : t.dummies = #[]) : ∀ (k fuel : Nat) (p : Probe), k < fuel → (∀ m, m < k → t.slot (adv m t p).j ≠ .empty) → p.dummy = none →
    (t.slot (adv k t p).j = .empty ∨ ∃ i, t.slot (adv k t p).j = .live i ∧ t.place[i]? = some (adv k t p).j ∧ hashAt i = h) →
    (t.slot (adv k t p).j = .empty ∧ probe.go t hashAt h fuel p = some (.empty (adv k t p).j none)) ∨
    ∃ m i, m ≤ k ∧ probe.go t hashAt h fuel p = some (.candidate (adv m t p).j i (adv (m + 1) t p)) ∧ t.slot (adv m t p).j = .live i ∧ t.place[i]? = some (adv m t p).j := by
  intro k
  induction k with
  | zero =>
    intro fuel p hf hp hn he
    cases fuel with
    | zero => omega
    | succ f =>
      rcases he with e | ⟨i, e, ep, eh⟩
      · refine .inl ⟨e, ?_⟩
        unfold probe.go
        rw [show t.slot p.j = .empty from e, hn]
        rfl
      · refine .inr ⟨0, i, Nat.le_refl _, ?_, e, ep⟩
        unfold probe.go
        rw [show t.slot p.j = .live i from e]
        simp only [eh, beq_self_eq_true, if_true]
        rfl
  | succ k ih =>
    intro fuel p hf hp hn he
    cases fuel with
    | zero => omega
    | succ f =>
      rcases slot_two hd p.j with e | ⟨i, e, ei⟩
      · exact absurd e (hp 0 (Nat.succ_pos _))
      · by_cases c : (hashAt i == h) = true
        · refine .inr ⟨0, i, Nat.zero_le _, ?_, e, ei⟩
          unfold probe.go
          rw [e]
          simp only [c, if_true]
          rfl
        · have eg : probe.go t hashAt h (f + 1) p = probe.go t hashAt h f (t.advance p) := by
            conv => lhs; unfold probe.go
            rw [e]
            simp only [c]
            rfl
          rw [eg]
          rcases ih f (t.advance p) (by omega) (fun m hm => hp (m + 1) (by omega)) ((adv_dummy t p).trans hn) he with ⟨e1, e2⟩ | ⟨m, i', h1, h2, h3, h4⟩
          · exact .inl ⟨e1, e2⟩
          · exact .inr ⟨m + 1, i', by omega, h2, h3, h4⟩
section
variable {prog : Program} {w : World} {κ : Type} {T : TupKind prog w κ} {A : Around} {E : Value → Shared → Prop} {s : Shared}
theorem search_gen (TS : TupSame T) {S a : Addr} {o : Obj} {es : Array (Int × Value)} {ep : Nat} {t : SetTable} {k : κ} {h : Int} {K : Nat} {Q : SetFound → Shared → Prop} (hr : T.room A) (ho : s.heap.get? S = some o) (hd : o.data = .set es ep t) (g : t.Good es.size)
    (hx : T.is s.heap k a) (hes : ∀ e ∈ es.toList, ∃ b l, e.2 = .ref b ∧ T.is s.heap l b ∧ (l = k → Q (.there none) s)) (hK : K < 10 * turns t.mask) (hp : ∀ m, m < K → t.slot (adv m t (t.probeStart h)).j ≠ .empty)
    (hf : (t.slot (adv K t (t.probeStart h)).j = .empty ∧ Q (.free (adv K t (t.probeStart h)).j false) s) ∨ ∃ i b, t.slot (adv K t (t.probeStart h)).j = .live i ∧ t.place[i]? = some (adv K t (t.probeStart h)).j ∧ es[i]? = some (h, .ref b) ∧ T.is s.heap k b ∧ Q (.there none) s) :
    ∀ (d m fuel : Nat) (stand : Option Probe), K = m + d → d < fuel → stand.getD (t.probeStart h) = adv m t (t.probeStart h) → wpAny (model prog w) A (setSearchFrom S (.ref a) h true fuel stand) Q E s := by
  intro d
  induction d using Nat.strongRecOn with
  | ind d ih =>
    intro m fuel stand e1 e2 e3
    cases fuel with
    | zero => omega
    | succ f =>
      unfold setSearchFrom
      refine wpAny_bind (wpAny_setState_of ho hd g.fits ?_)
      have gw : t.gaveWay = false := by
        unfold SetTable.gaveWay
        rcases g.2.2.1 with z | z | z | z <;> rw [z] <;> rfl
      simp only [gw, Bool.false_eq_true, if_false]
      rw [e3]
      have ek : adv d t (adv m t (t.probeStart h)) = adv K t (t.probeStart h) := by rw [← adv_add, ← e1]
      have key : ∀ (H : Nat → Int) (r : Option Met), (∀ (i : Nat) (b : Addr), es[i]? = some (h, Value.ref b) → H i = h) → t.probe H h (adv m t (t.probeStart h)) = r →
          (t.slot (adv K t (t.probeStart h)).j = .empty ∧ r = some (.empty (adv K t (t.probeStart h)).j none)) ∨ ∃ m' i, m' ≤ d ∧ r = some (.candidate (adv m' t (adv m t (t.probeStart h))).j i (adv (m' + 1) t (adv m t (t.probeStart h)))) ∧ t.slot (adv m' t (adv m t (t.probeStart h))).j = .live i ∧ t.place[i]? = some (adv m' t (adv m t (t.probeStart h))).j := fun H r hH e => by
        rw [← e]
        have := go_ends3 (hashAt := H) (h := h) g.2.1 d (10 * turns t.mask) (adv m t (t.probeStart h)) (by omega) (fun m' hm' => by rw [← adv_add]; exact hp (m + m') (by omega)) (advN_dummy t m _) (by
          rw [ek]
          rcases hf with ⟨z, _⟩ | ⟨i, b, z1, z2, z3, _⟩
          · exact .inl z
          · exact .inr ⟨i, z1, z2, hH i b z3⟩)
        rw [ek] at this
        exact this
      have hH : ∀ (i : Nat) (b : Addr), es[i]? = some (h, Value.ref b) → ((es[i]?.map fun e : Int × Value => e.1).getD 0) = h := fun i b e => by rw [e]; rfl
      split
      · rename_i met heq
        rcases key _ _ (fun i b e => hH i b e) heq with ⟨z, e⟩ | ⟨m', i, h1, e, hl, hp'⟩
        · cases e
          rcases hf with ⟨_, q⟩ | ⟨i, b, z1, _⟩
          · exact wpAny_pure q
          · rw [z1] at z; cases z
        · cases e
          have hi : i < es.size := by
            have := (Array.getElem?_eq_some_iff.mp hp').1
            rw [g.1] at this
            exact this
          obtain ⟨b, l, eb, hb, hq⟩ := hes es[i] (Array.mem_toList_iff.mpr (Array.getElem_mem hi))
          have ey : es[i]? = some (es[i].1, Value.ref b) := by rw [Array.getElem?_eq_getElem hi, ← eb]
          have sm : t.sameMemory t.moves t.mask = some true := by unfold sameMemory; simp
          have go : wpAny (model prog w) A (do
              let equal ← holding [Value.ref b] (eqBool (.ref b) (.ref a))
              let (es', _, t') ← setState S
              if true && equal then return .there none
              let some same := t'.sameMemory t.moves t.mask | unsupported "set.changed-during-lookup:is-the-new-block-at-the-old-address"
              let still ← match (if same then t'.slot (adv m' t (adv m t (t.probeStart h))).j else .empty) with
                | .live i' => match es'[i']? with
                  | some (_, y') => do pure (if ← isSame y' (Value.ref b) then some i' else none)
                  | none => pure none
                | _ => pure none
              match still with
              | none => rule "set.search.anew"; setSearchFrom S (.ref a) h true f none
              | some i' => if equal then return .there (some i') else setSearchFrom S (.ref a) h true f (some (adv (m' + 1) t (adv m t (t.probeStart h))))) Q E s := by
            by_cases c : l = k
            · subst c
              refine wpAny_bind (wpAny_holding (TS.same hr hb hx ?_))
              refine wpAny_bind (wpAny_setState_of ho hd g.fits ?_)
              simp only [Bool.and_self, if_true]
              exact wpAny_pure (hq rfl)
            · by_cases md : m' = d
              · subst md
                rcases hf with ⟨z, _⟩ | ⟨i0, b0, z1, z2, z3, z4, z5⟩
                · rw [← ek] at z
                  rw [hl] at z
                  cases z
                · rw [← ek, hl] at z1
                  cases z1
                  rw [ey] at z3
                  cases z3
                  refine wpAny_bind (wpAny_holding (TS.same hr z4 hx ?_))
                  refine wpAny_bind (wpAny_setState_of ho hd g.fits ?_)
                  simp only [Bool.and_self, if_true]
                  exact wpAny_pure z5
              · refine wpAny_bind (wpAny_holding (T.other hr hb hx c ?_))
                refine wpAny_bind (wpAny_setState_of ho hd g.fits ?_)
                simp only [Bool.and_false, Bool.false_eq_true, if_false, sm, if_true, hl, ey]
                refine wpAny_bind (wpAny_isSame_ref_self ?_)
                refine wpAny_bind (wpAny_pure ?_)
                simp only [if_true, Bool.false_eq_true, if_false]
                exact ih (d - (m' + 1)) (by omega) (m + (m' + 1)) f (some _) (by omega) (by omega) (by show adv (m' + 1) t (adv m t (t.probeStart h)) = _; rw [← adv_add])
          dsimp only
          refine wpAny_ite ?_
          split
          · refine wpAny_bind (not_seen hx ?_ _ fun y hy => ?_)
            rotate_left
            · obtain ⟨e, he, rfl⟩ := List.mem_map.mp hy
              have he := (Array.mem_filter.mp (Array.mem_toList_iff.mp he)).1
              obtain ⟨b, l, eb, hb, _⟩ := hes e (Array.mem_toList_iff.mpr he)
              exact ⟨b, l, eb, hb⟩
            simp only [Bool.false_eq_true, if_false]
            rw [ey]
            exact go
          · rw [ey]
            exact go
      · rename_i heq
        rcases key _ _ (fun i b e => hH i b e) rfl with ⟨z, e⟩ | ⟨m', i, h1, e, hl, hp'⟩
        · exact (heq _ e).elim
        · exact (heq _ e).elim
theorem store_relay2 {S : Addr} {o : Obj} {es es1 : Array (Int × Value)} {ep n1 : Nat} {t t1 : SetTable} {Q : Bool → Shared → Prop} (ho : s.heap.get? S = some o) (hex : o.ExactSet) (hd : o.data = .set es ep t) (h76 : es1.size ≤ 306) (h0 : 0 < es1.size) (en : n1 = es1.size)
    (hp : t1.place.size = es1.size) (hdm : t1.dummies = #[]) (hm : MaskOk t1.mask) (hb : (es1.size - 1) * 5 < t1.mask * 3) (hR : SetTable.Reach t1 es1)
    (h : ∀ (h' : Heap) (o' : Obj) (es' : Array (Int × Value)) (ep' : Nat) (t' : SetTable), Heap.SameBut S s.heap h' → h'.get? S = some o' → o'.ExactSet → o'.data = .set es' ep' t' → t'.Good es'.size → es'.size = es1.size →
      (∀ e ∈ es'.toList, e ∈ es1.toList) → (∀ e ∈ es1.toList, e ∈ es'.toList) → SetTable.Reach t' es' → t'.led = t1.led → t'.plain = t1.plain → Q true { s with heap := h' }) :
    wpAny (model prog w) A (do
      storeSet S es1 t1
      if (!false && t1.tooFull) = true then do
        setRelay S (grown n1)
        pure true
      else pure true) Q E s := by
  subst en
  have fit1 : t1.fits es1.size = true := by
    unfold SetTable.fits fill
    rw [hp, hdm]
    rcases hm with z | z | z | z <;> rw [z] at hb ⊢ <;> simp <;> omega
  have szl : es1.size ≤ sizeLine := by rw [sizeLine_eq]; omega
  refine wpAny_bind (wpAny_storeSet_of ho hd ?_ szl)
  have ho1 : (s.heap.update S (Obj.putSet es1 t1)).get? S = some { o with data := .set es1 (ep + 1) t1 } := by
    have := Heap.get?_update_self (Obj.putSet es1 t1) ho (by rw [putSet_of es1 t1 hd]; rfl)
    rw [putSet_of es1 t1 hd] at this
    exact this
  have sb1 := Heap.SameBut.update s.heap S (Obj.putSet es1 t1)
  by_cases c : t1.tooFull = true
  · rw [c]
    simp only [Bool.not_false, Bool.and_self, if_true]
    have c' : t1.mask * 3 ≤ es1.size * 5 := by
      unfold tooFull fill at c
      rw [hp, hdm] at c
      simpa using c
    obtain ⟨hm2, hn2⟩ : MaskOk (sizeAbove (grown es1.size) - 1) ∧ es1.size * 5 < (sizeAbove (grown es1.size) - 1) * 3 := by
      rcases hm with z | z | z | z
      · have e5 : es1.size = 5 := by omega
        rw [e5]
        exact ⟨.inr (.inl (by decide)), by decide⟩
      · have e5 : es1.size = 19 := by omega
        rw [e5]
        exact ⟨.inr (.inr (.inl (by decide))), by decide⟩
      · have e5 : es1.size = 77 := by omega
        rw [e5]
        exact ⟨.inr (.inr (.inr (by decide))), by decide⟩
      · omega
    have small : ¬ sizeAbove (grown es1.size) > sizeLine := by
      rw [sizeLine_eq]
      rcases hm2 with z | z | z | z <;> omega
    obtain ⟨t2, order, er, g2, so, lo, R2, C2, ld, pl⟩ := relaid_reach (t := t1) (es := es1) (wanted := grown es1.size) hm2 hn2
    have sz2 : (order.filterMap (es1[·]?)).size = es1.size := by
      have key : ∀ l : List Nat, (∀ v ∈ l, v < es1.size) → (l.filterMap (es1[·]?)).length = l.length := fun l => by
        induction l with
        | nil => intro _; rfl
        | cons v l ih =>
          intro hv
          have lv := hv v (by simp)
          rw [List.filterMap_cons, Array.getElem?_eq_getElem lv]
          simp only [List.length_cons]
          rw [ih fun u hu => hv u (List.mem_cons_of_mem _ hu)]
      rw [← Array.length_toList, Array.toList_filterMap, key _ fun v hv => lo v (Array.mem_toList_iff.mp hv), Array.length_toList]
      exact so
    have mem2 : ∀ e ∈ (order.filterMap (es1[·]?)).toList, e ∈ es1.toList := fun e he => by
      rw [Array.toList_filterMap] at he
      obtain ⟨v, _, hv⟩ := List.mem_filterMap.mp he
      exact Array.mem_toList_iff.mpr (Array.mem_of_getElem? hv)
    unfold setRelay
    refine wpAny_bind (wpAny_bind (wpAny_setState_of ho1 rfl fit1 ?_))
    dsimp only
    rw [if_neg small, er]
    refine wpAny_bind ?_
    show wpAny _ _ (if ((order.filterMap (es1[·]?)).size != es1.size) = true then _ else _) _ _ _
    rw [if_neg (by rw [sz2]; simp)]
    refine wpAny_pure ?_
    dsimp only
    generalize order.filterMap (es1[·]?) = es2 at sz2 mem2 R2 C2
    refine wpAny_storeSet_of ho1 rfl ?_ (by rw [sz2]; exact szl)
    have hd1 : ({ o with data := .set es1 (ep + 1) t1 } : Obj).data = .set es1 (ep + 1) t1 := rfl
    have ho2 : ((s.heap.update S (Obj.putSet es1 t1)).update S (Obj.putSet es2 t2)).get? S = some { o with data := .set es2 (ep + 2) t2 } := by
      have := Heap.get?_update_self (Obj.putSet es2 t2) ho1 (by rw [putSet_of es2 t2 hd1]; rfl)
      rw [putSet_of es2 t2 hd1] at this
      exact this
    refine wpAny_pure (h _ _ es2 (ep + 2) t2 (sb1.trans (Heap.SameBut.update _ S _)) ho2 hex rfl (by rw [sz2]; exact g2) sz2 mem2 C2 R2 ld pl)
  · rw [show t1.tooFull = false by simpa using c]
    simp only [Bool.not_false, Bool.and_false, Bool.false_eq_true, if_false]
    refine wpAny_pure (h _ _ es1 (ep + 1) t1 sb1 ho1 hex rfl ⟨hp, hdm, hm, ?_⟩ rfl (fun e he => he) (fun e he => he) hR rfl rfl)
    unfold tooFull fill at c
    rw [hp, hdm] at c
    simpa using c
theorem least {P : Nat → Prop} : ∀ n, P n → ∃ K, K ≤ n ∧ P K ∧ ∀ m, m < K → ¬ P m := by
  intro n
  induction n using Nat.strongRecOn with
  | ind n ih =>
    intro h
    by_cases c : ∃ m, m < n ∧ P m
    · obtain ⟨m, h1, h2⟩ := c
      obtain ⟨K, h3, h4, h5⟩ := ih m h1 h2
      exact ⟨K, by omega, h4, h5⟩
    · exact ⟨n, Nat.le_refl _, h, fun m hm hP => c ⟨m, hm, hP⟩⟩
def SetR {prog : Program} {w : World} {κ : Type} (T : TupKind prog w κ) (h : Heap) (S : Addr) (led : Bool) (ls : List κ) : Prop :=
  ∃ o es ep t, h.get? S = some o ∧ o.ExactSet ∧ o.data = .set es ep t ∧ t.Good es.size ∧ SetTable.Reach t es ∧ t.led = led ∧ t.plain = true ∧ es.size = ls.length ∧
    (∀ e ∈ es.toList, ∃ b l, e = (T.hash l, .ref b) ∧ T.is h l b ∧ l ∈ ls) ∧ ∀ l ∈ ls, ∃ e ∈ es.toList, ∃ b, e = (T.hash l, .ref b) ∧ T.is h l b
theorem SetR.moved {s s' : Shared} {S : Addr} {led : Bool} {ls : List κ} (h : SetR T s.heap S led ls) (mv : ∀ b o, s.heap.get? b = some o → (b = S ∨ o.cls = .type "tuple") → s'.heap.get? b = some o) : SetR T s'.heap S led ls := by
  obtain ⟨o, es, ep, t, ho, hex, hd, g, R, hl, hp, sz, c1, c2⟩ := h
  refine ⟨o, es, ep, t, mv S o ho (.inl rfl), hex, hd, g, R, hl, hp, sz, fun e h1 => ?_, fun l h1 => ?_⟩
  · obtain ⟨b, l, h2, h3, h4⟩ := c1 e h1
    exact ⟨b, l, h2, T.keeps h3 fun b o e c => mv b o e (.inr c), h4⟩
  · obtain ⟨e, h2, b, h3, h4⟩ := c2 l h1
    exact ⟨e, h2, b, h3, T.keeps h4 fun b o e c => mv b o e (.inr c)⟩
theorem add_any (TS : TupSame T) {S a : Addr} {led : Bool} {ls : List κ} {k : κ} {Q : Bool → Shared → Prop} (hr : T.room A) (hS : SetR T s.heap S led ls) (hx : T.is s.heap k a) (hn : ls.length < 306)
    (h1 : k ∈ ls → Q false { s with toks := s.toks + T.draws k })
    (h2 : k ∉ ls → ∀ h', Heap.SameBut S s.heap h' → (∃ o, s.heap.get? S = some o ∧ o.cls = .type "set") → SetR T h' S led (k :: ls) → Q true { s with heap := h', toks := s.toks + T.draws k }) :
    wpAny (model prog w) A (setAdd S (.ref a)) Q E s := by
  obtain ⟨o, es, ep, t, ho, hex, hd, g, R, hl, hp, sz, c1, c2⟩ := hS
  unfold setAdd
  refine wpAny_holding (wpAny_bind (T.pyHash hr hx ?_))
  unfold setAddHashed setAddHashedIn
  refine wpAny_holding (wpAny_bind (wpAny_setState_of (s := { s with toks := s.toks + T.draws k }) ho hd g.fits ?_))
  dsimp only
  rw [show byScan (Value.ref a) es = false from rfl]
  simp only [Bool.false_eq_true, if_false]
  unfold setSearch
  by_cases hk : k ∈ ls
  · obtain ⟨e, he, b, rfl, hb⟩ := c2 k hk
    obtain ⟨i, hi⟩ := List.getElem?_of_mem he
    rw [Array.getElem?_toList] at hi
    obtain ⟨j, hj, K, hK, ej, hw⟩ := R.at_ i _ hi
    have hK2 : K < 100000 := by
      unfold turns at hK
      rcases g.2.2.1 with z | z | z | z <;> rw [z] at hK <;> omega
    have qq := h1 hk
    refine wpAny_bind (search_gen (s := { s with toks := s.toks + T.draws k }) TS hr ho hd g hx (fun e h3 => ?_) hK (fun m hm => slot_occ R.rise (hw m hm)) (.inr ⟨i, b, ?_, ?_, hi, hb, ?_⟩) K 0 100000 none (by omega) hK2 rfl)
    · obtain ⟨b', l, rfl, h5, _⟩ := c1 e h3
      exact ⟨b', l, rfl, h5, fun _ => wpAny_pure qq⟩
    · have ej : (adv K t (t.probeStart (T.hash k))).j = j := ej
      rw [ej]
      exact slot_live R.rise hj
    · have ej : (adv K t (t.probeStart (T.hash k))).j = j := ej
      rw [ej]
      exact hj
    · exact wpAny_pure qq
  · obtain ⟨K0, hK0, hf0⟩ := way_free g (T.hash k)
    obtain ⟨K, hKK, hf, hmin⟩ := least (P := fun m => t.slot (adv m t (t.probeStart (T.hash k))).j = .empty) K0 hf0
    have hK : K < 10 * turns t.mask := by omega
    have hK2 : K < 100000 := by
      unfold turns at hK
      rcases g.2.2.1 with z | z | z | z <;> rw [z] at hK <;> omega
    have no : ∀ e ∈ es.toList, ∃ b l, e.2 = .ref b ∧ T.is s.heap l b ∧ l ≠ k := fun e h3 => by
      obtain ⟨b', l, rfl, h5, h6⟩ := c1 e h3
      exact ⟨b', l, rfl, h5, fun z => hk (z ▸ h6)⟩
    refine wpAny_bind (search_gen (s := { s with toks := s.toks + T.draws k }) TS hr ho hd g hx (fun e h3 => ?_) hK hmin (.inl ⟨hf, ?_⟩) K 0 100000 none (by omega) hK2 rfl)
    · obtain ⟨b', l, h4, h5, h6⟩ := no e h3
      exact ⟨b', l, h4, h5, fun z => absurd z h6⟩
    generalize ej : (adv K t (t.probeStart (T.hash k))).j = j at hf
    dsimp only
    refine wpAny_bind (wpAny_setState_of (s := { s with toks := s.toks + T.draws k }) ho hd g.fits ?_)
    dsimp only
    have sp : (insertAt es (t.put j).2 (T.hash k, Value.ref a)).size = es.size + 1 := by
      have := (insertAt_perm es (t.put j).2 (T.hash k, Value.ref a)).length_eq
      rw [Array.length_toList, Array.length_toList, Array.size_push] at this
      exact this
    have mp : ∀ e, e ∈ (insertAt es (t.put j).2 (T.hash k, Value.ref a)).toList ↔ e ∈ es.toList ∨ e = (T.hash k, .ref a) := fun e => by
      rw [(insertAt_perm es (t.put j).2 (T.hash k, Value.ref a)).mem_iff, Array.toList_push, List.mem_append, List.mem_singleton]
    have pp : (t.put j).1.place.size = es.size + 1 := by
      have := (insertAt_perm t.place (below t.place j) j).length_eq
      rw [Array.length_toList, Array.length_toList, Array.size_push, g.1] at this
      exact this
    have pd : (t.put j).1.dummies = #[] := by
      show (if has t.dummies j then _ else t.dummies) = #[]
      rw [g.2.1, if_neg (by unfold has; simp)]
    have pm : (t.put j).1.mask = t.mask := rfl
    have rp : SetTable.Reach (t.put j).1 (insertAt es (t.put j).2 (T.hash k, Value.ref a)) := reach_put g rfl R (fun z => slot_occ R.rise z hf) ⟨K, hK, ej, fun m hm => occ_slot g.2.1 (hmin m hm)⟩
    have fin : ∀ n1, n1 = es.size + 1 → wpAny (model prog w) A (do
        storeSet S (insertAt es (t.put j).2 (T.hash k, Value.ref a)) (t.put j).1
        if (!false && (t.put j).1.tooFull) = true then do
          setRelay S (grown n1)
          pure true
        else pure true) Q E { s with toks := s.toks + T.draws k } := fun n1 e1 => by
      refine store_relay2 (s := { s with toks := s.toks + T.draws k }) ho hex hd (by rw [sp]; omega) (by rw [sp]; omega) (by rw [sp]; exact e1) (by rw [sp]; exact pp) pd (by rw [pm]; exact g.2.2.1) (by rw [sp, pm]; exact g.2.2.2) rp fun h' o' es' ep' t' q1 q2 q3 q4 q5 q6 q7 q8 q9 q10 q11 => ?_
      have kp : ∀ c o2, s.heap.get? c = some o2 → o2.cls = .type "tuple" → h'.get? c = some o2 := fun c o2 e z => by
        have ne : c ≠ S := fun h => by
          subst h
          rw [ho] at e
          cases e
          rw [hex.1] at z
          injection z with z
          exact absurd z (by decide)
        rw [q1.2 c ne]
        exact e
      refine h2 hk h' q1 ⟨o, ho, hex.1⟩ ⟨o', es', ep', t', q2, q3, q4, q5, q9, by rw [q10]; exact hl, by rw [q11]; exact hp, by rw [q6, sp, sz]; rfl, fun e h3 => ?_, fun l h3 => ?_⟩
      · rcases (mp e).mp (q7 e h3) with h4 | rfl
        · obtain ⟨b', l, h5, h6, h7⟩ := c1 e h4
          exact ⟨b', l, h5, T.keeps h6 kp, List.mem_cons_of_mem _ h7⟩
        · exact ⟨a, k, rfl, T.keeps hx kp, List.mem_cons_self⟩
      · rcases List.mem_cons.mp h3 with rfl | h3
        · exact ⟨_, q8 _ ((mp _).mpr (.inr rfl)), a, rfl, T.keeps hx kp⟩
        · obtain ⟨e, h4, b', h5, h6⟩ := c2 l h3
          exact ⟨e, q8 _ ((mp _).mpr (.inl h4)), b', h5, T.keeps h6 kp⟩
    have ppl : (t.put j).1.plain = true := hp
    rw [ppl]
    simp only [if_true]
    refine wpAny_bind (T.byVal (s := { s with toks := s.toks + T.draws k }) hx ?_)
    simp only [if_true]
    exact fin _ rfl
end
end PySem
namespace PySem
open SetTable
def Sof {prog : Program} {w : World} {κ : Type} (T : TupKind prog w κ) (h : Heap) (S : Addr) (led : Bool) (i : Nat) (key : Nat → κ) : Prop := ∃ ls : List κ, ls.Nodup ∧ (∀ l, l ∈ ls ↔ ∃ j, j < i ∧ key j = l) ∧ SetR T h S led ls
section
variable {prog : Program} {w : World} {κ : Type} {T : TupKind prog w κ} {A : Around} {R : Result → Shared → Prop} {I : Addr} {fp wr : List Addr} {G : Array GenState → Array GenState → Prop} {n : Nat} {P : Nat → Value → Prop} {St : Nat → Shared → Prop}
theorem nodup_short {α : Type} : ∀ (l : List α) (i : Nat) (f : Nat → α), l.Nodup → (∀ x ∈ l, ∃ j, j < i ∧ f j = x) → l.length ≤ i := by
  intro l i f nd h
  have : ∃ m : List Nat, m.Nodup ∧ m.length = l.length ∧ (∀ x ∈ m, x < i) ∧ m.map f = l := by
    induction l with
    | nil => exact ⟨[], List.nodup_nil, rfl, (fun _ z => by cases z), rfl⟩
    | cons a l ih =>
      obtain ⟨ha, nd⟩ := List.nodup_cons.mp nd
      obtain ⟨m, h1, h2, h3, h4⟩ := ih nd fun x hx => h x (List.mem_cons_of_mem _ hx)
      obtain ⟨j, hj, e⟩ := h a List.mem_cons_self
      refine ⟨j :: m, List.nodup_cons.mpr ⟨fun z => ha ?_, h1⟩, by simp [h2], fun x hx => ?_, by rw [List.map_cons, h4, e]⟩
      · rw [← h4, ← e]
        exact List.mem_map.mpr ⟨j, z, rfl⟩
      · rcases List.mem_cons.mp hx with rfl | hx
        · exact hj
        · exact h3 x hx
  obtain ⟨m, h1, h2, h3, _⟩ := this
  have := len_sub (m := List.range i) h1 fun x hx => List.mem_range.mpr (h3 x hx)
  rw [List.length_range] at this
  omega
theorem tup_loop2 (W : WalksS prog w A.in1 I fp wr G n P St) (hwr : ∀ i s, St i s → ∀ b ∈ wr, ∀ o, s.heap.get? b = some o → o.cls ≠ .type "tuple") {S : Addr} (hSf : S ∉ fp) (key : Nat → κ) (TS : TupSame T) (hr : T.room A.in1) (h76 : n ≤ 306) (led : Bool) :
    ∀ (d i : Nat) (s : Shared), n - i = d → i ≤ n → St i s → Sof T s.heap S led i key → (∀ j v, P j v → ∃ b, v = .ref b ∧ T.is s.heap (key j) b) →
      (∀ s', Moved (S :: wr) G s s' → Sof T s'.heap S led n key → R (.ok (.ret .none)) s') → codeAny (model prog w) A (.builtin "set.update.loop" ⟨[.ref S, .ref I], []⟩) R s := by
  have hSw : S ∉ wr := fun h => hSf (W.sub _ h)
  have up : ∀ b ∈ wr, b ∈ S :: wr := fun b hb => List.mem_cons_of_mem _ hb
  have mvd : ∀ {i : Nat} {s s' : Shared}, St i s → Moved wr G s s' → ∀ b o, s.heap.get? b = some o → (b = S ∨ o.cls = .type "tuple") → s'.heap.get? b = some o := fun st mv b o e c => mv.heap b o (fun hb => by
    rcases c with c | c
    · exact hSw (c ▸ hb)
    · exact hwr _ _ st b hb o e c) e
  intro d
  induction d with
  | zero =>
    intro i s e0 hi st ⟨ls, nd, mem, hS⟩ hI hR
    obtain rfl : i = n := by omega
    refine codeAny_builtin PyProof.Rows.F.entry_set_update_loop ?_
    rw [Around.under_plainId PyProof.Rows.F.plain_set_update_loop _]
    show wpAny _ A.in1 (pyNext (.ref I) >>= _) _ _ s
    refine wpAny_bind (W.done s _ _ st fun s' mv => ?_)
    exact wpAny_pure (hR s' (mv.mono up) ⟨ls, nd, mem, hS.moved (mvd st mv)⟩)
  | succ d ih =>
    intro i s e0 hi st ⟨ls, nd, mem, hS⟩ hI hR
    have lt : i < n := by omega
    have short := nodup_short ls i key nd fun x hx => (mem x).mp hx
    refine codeAny_builtin PyProof.Rows.F.entry_set_update_loop ?_
    rw [Around.under_plainId PyProof.Rows.F.plain_set_update_loop _]
    show wpAny _ A.in1 (pyNext (.ref I) >>= _) _ _ s
    refine wpAny_bind (W.item i s _ _ lt st fun v s1 hP st1 mv => ?_)
    have hS1 := hS.moved (mvd st mv)
    have hI1 : ∀ j v, P j v → ∃ b, v = .ref b ∧ T.is s1.heap (key j) b := fun j v h => by
      obtain ⟨b, e, hb⟩ := hI j v h
      exact ⟨b, e, T.keeps hb fun c o e z => mvd st mv c o e (.inr z)⟩
    obtain ⟨b, rfl, hb⟩ := hI1 i v hP
    show wpAny _ A.in1 (holding [Value.ref b] (setAdd S (.ref b)) >>= _) _ _ s1
    refine wpAny_bind (wpAny_holding (add_any TS hr hS1 hb (by omega) (fun hk => ?_) fun hk h' sb hset hS2 => ?_))
    · refine wpAny_pure ⟨plainId_quiet PyProof.Rows.F.plain_set_update_loop _, ih (i + 1) _ (by omega) lt (W.frame _ s1 _ _ st1 (Nat.le_add_right _ _) fun c hc o e => e) ⟨ls, nd, fun l => ?_, hS1⟩ (fun j v h => hI1 j v h) fun s2 mv2 hS2 => ?_⟩
      · rw [mem l]
        constructor
        · rintro ⟨j, h1, h2⟩
          exact ⟨j, by omega, h2⟩
        · rintro ⟨j, h1, h2⟩
          by_cases c : j < i
          · exact ⟨j, c, h2⟩
          · obtain rfl : j = i := by omega
            subst h2
            exact (mem _).mp hk
      · exact hR s2 (Moved.trans W.gtrans ((mv.mono up).then_heap (Nat.le_add_right _ _) fun c o hc e => e) mv2) hS2
    obtain ⟨oS, hoS, hcS⟩ := hset
    have kp : ∀ c o, s1.heap.get? c = some o → o.cls = .type "tuple" → h'.get? c = some o := fun c o2 e z => by
      have ne : c ≠ S := fun h => by
        subst h
        rw [hoS] at e
        cases e
        rw [hcS] at z
        injection z with z
        exact absurd z (by decide)
      rw [sb.2 c ne]
      exact e
    refine wpAny_pure ⟨plainId_quiet PyProof.Rows.F.plain_set_update_loop _, ih (i + 1) _ (by omega) lt (W.frame _ s1 _ _ st1 (Nat.le_add_right _ _) fun c hc o e => ?_) ⟨key i :: ls, List.nodup_cons.mpr ⟨hk, nd⟩, fun l => ?_, hS2⟩ (fun j v h => ?_) fun s2 mv2 hS3 => ?_⟩
    · rw [sb.2 c (fun h : c = S => hSf (h ▸ hc))]
      exact e
    · rw [List.mem_cons, mem l]
      constructor
      · rintro (rfl | ⟨j, h1, h2⟩)
        · exact ⟨i, by omega, rfl⟩
        · exact ⟨j, by omega, h2⟩
      · rintro ⟨j, h1, h2⟩
        by_cases c : j < i
        · exact .inr ⟨j, c, h2⟩
        · obtain rfl : j = i := by omega
          exact .inl h2.symm
    · obtain ⟨c, e, hc⟩ := hI1 j v h
      exact ⟨c, e, T.keeps hc kp⟩
    · refine hR s2 (Moved.trans W.gtrans ((mv.mono up).then_heap (Nat.le_add_right _ _) fun c o hc e => ?_) mv2) hS3
      rw [sb.2 c (fun h : c = S => hc (by rw [h]; exact List.mem_cons_self))]
      exact e
end
section
variable {prog : Program} {w : World} {κ : Type} {T : TupKind prog w κ} {A : Around} {E : Value → Shared → Prop} {s : Shared}
theorem set_new_led (a : Value) {Q₁ : Value → Shared → Prop} (h : Q₁ (.ref s.heap.objs.size) { s with heap := s.heap.push (set0 (!(w.params.followText "set-order"))) }) :
    codeAny (model prog w) A (.call (.builtin "set.__new__") ⟨[.type "set", a], []⟩) (wants Q₁ E) s := by
  refine codeAny_of_tree (show wpAny _ A.in1 (checkBuiltinCall "set.__new__" ⟨[.type "set", a], []⟩ >>= fun _ => again (.builtin "set.__new__" ⟨[.type "set", a], []⟩)) _ _ s from ?_)
  refine wpAny_bind (wpAny_of_eq (F.newCall_set_1 a) (wpAny_pure ⟨plainId_quiet F.plain_set_new _, codeAny_builtin F.entry_set_new ?_⟩))
  rw [Around.under_plainId F.plain_set_new _]
  have hsub := sub_set_self
  unfold Builtin.«set.__new__» Builtin.Frozenset.newClass
  obtain ⟨hp, g, d, tk, os⟩ := s
  dsimp only
  wp_walk
  refine wpAny_askSetting (wpAny_pure ?_)
  dsimp only
  simp only [newObj]
  exact wpAny_bind (wpAny_alloc (wpAny_pure (wpAny_pure h)))
set_option maxRecDepth 100000 in
theorem call_set_any (TS : TupSame T) {l : Addr} {items : Array Value} {key : Nat → κ} {Q : Value → Shared → Prop} (hh : A.handled = none) (hr : T.room A.in1.in1.in1) (hl : s.heap.IsList l items) (h76 : items.size ≤ 306)
    (hi : ∀ (i : Nat) v, items[i]? = some v → ∃ b, v = .ref b ∧ T.is s.heap (key i) b)
    (h : ∀ (h' : Heap) (tk : Nat), Sof T h' s.heap.objs.size (!(w.params.followText "set-order")) items.size key → (∀ b o, s.heap.get? b = some o → h'.get? b = some o) → s.toks ≤ tk → Q (.ref s.heap.objs.size) { s with heap := h', toks := tk }) :
    wpAny (model prog w) A (call (.type "set") [.ref l]) Q E s := by
  obtain ⟨c, tl, hmro⟩ := F.called_set.mro
  have made := F.called_set.made
  have sub := F.called_set.sub
  refine wpAny_call (codeAny_of_tree (show wpAny _ _ (callAny (.type "set") _) _ _ _ from ?_))
  refine wpAny_pure ⟨Code.quiet_builtin _ (by decide +kernel), codeAny_builtin F.entry_type_call ?_⟩
  rw [Around.under_plain (weight_type_call_type "set" [.ref l] []) rfl]
  have n1 := F.called_set.notType
  have n2 := F.called_set.canCreate
  have n3 := F.typeCall_set_1 (.ref l)
  repeat (any_goals (first | assumption | wp_step))
  generalize el : (!(w.params.followText "set-order")) = led
  refine codeAny_mono (set_new_led (.ref l) (E := E) (Q₁ := fun obj s₁ => obj = .ref s.heap.objs.size ∧ s₁ = { s with heap := s.heap.push (set0 led) }) (by rw [el]; exact ⟨rfl, rfl⟩)) fun r s₁ hq => ?_
  cases r with
  | error e => exact hq
  | ok fl =>
    cases fl with
    | ret obj =>
      obtain ⟨rfl, rfl⟩ := hq
      have hS : (s.heap.push (set0 led)).get? s.heap.objs.size = some (set0 led) := Heap.get?_push_size _ rfl
      have hT : Shared.TypeIs { s with heap := s.heap.push (set0 led) } (.ref s.heap.objs.size) "set" := ⟨_, hS, rfl⟩
      have b1 := F.called_set.init.lookup
      have b2 := F.called_set.init.bind (.ref s.heap.objs.size)
      repeat (any_goals (first | assumption | wp_step))
      refine codeAny_mono (codeAny_call_builtin (R := wants (fun r s₂ => r = .none ∧ ∃ h' tk, s₂ = { s with heap := h', toks := tk } ∧ Sof T h' s.heap.objs.size (!(w.params.followText "set-order")) items.size key ∧ (∀ b o, s.heap.get? b = some o → h'.get? b = some o) ∧ s.toks ≤ tk) E) F.called_set.init.plain F.entry_set_init (check_set_init_1 hT ?_)) fun r₂ s₂ hq₂ => ?_
      · obtain ⟨ol, hol, hcl, nl, hdl⟩ := hl
        obtain ⟨ocls, odict, odata, oslots⟩ := ol
        simp only at hcl hdl
        subst hcl; subst hdl
        have hol' : (s.heap.push (set0 led)).get? l = some { cls := .type "list", dict := odict, data := .seq items nl, slots := oslots } := Heap.get?_push_of_some _ hol
        have m1 := F.sub_list_set
        have m2 := F.sub_list_frozenset
        have m3 : (Value.type "list" == Value.type "dict") = false := by decide
        have hl1 : (s.heap.push (set0 led)).IsList l items := ⟨_, hol', rfl, nl, rfl⟩
        unfold Builtin.«set.__init__» noKeywords Builtin.Frozenset.updateFrom
        generalize hPI : pyIter = PI
        wp_walk
        subst hPI
        refine wpAny_pyIter_list hl1 (wpAny_bind (wpAny_runValue ?_))
        have ll : l < s.heap.objs.size := Heap.lt_size hol
        have sz : (s.heap.push (set0 led)).objs.size = s.heap.objs.size + 1 := Heap.size_push ..
        have hh3 : A.in1.in1.in1.handled = none := by simp [hh]
        have ne1 : l ≠ (s.heap.push (set0 led)).objs.size := by rw [sz]; exact Nat.ne_of_lt (Nat.lt_succ_of_lt ll)
        have out : s.heap.objs.size ∉ [(s.heap.push (set0 led)).objs.size, l] := by
          rw [sz]
          intro z
          rcases List.mem_cons.mp z with z | z
          · exact Nat.ne_of_lt (Nat.lt_succ_self _) z
          · exact Nat.ne_of_gt ll (List.mem_singleton.mp z)
        have kp : ∀ b o, s.heap.get? b = some o → ((s.heap.push (set0 led)).push { cls := .type "list_iterator", data := .fields #[.ref l, .int 0 0] }).get? b = some o := fun b o e => Heap.get?_push_of_some _ (Heap.get?_push_of_some _ e)
        refine tup_loop2 (T := T) ((Walks.list hh3 _ l ne1 items).toS) (fun i s st b hb o e => ?_) out key TS hr h76 led (items.size - 0) 0 _ (by omega) (Nat.zero_le _) ⟨⟨_, Heap.get?_push_size _ rfl, rfl, rfl⟩, (hl1.push _)⟩ ?_ (fun j v e => ?_) fun s' mv hS' => ?_
        · obtain ⟨⟨o2, e2, c2, _⟩, _⟩ := st
          rw [List.mem_singleton.mp hb] at e
          rw [e2] at e
          cases e
          rw [c2]
          intro z
          injection z with z
          exact absurd z (by decide)
        · refine ⟨[], List.nodup_nil, fun l => ⟨fun z => (by cases z), fun ⟨j, z, _⟩ => absurd z (Nat.not_lt_zero _)⟩, set0 led, #[], 0, .fresh 0 0 led, Heap.get?_push_of_some _ hS, ⟨rfl, rfl, rfl⟩, rfl, ⟨rfl, rfl, .inl rfl, (show 0 * 5 < 7 * 3 by decide)⟩, ⟨rise_nil, fun i e z => by simp at z⟩, rfl, rfl, rfl, fun e he => by simp at he, fun l he => by cases he⟩
        · obtain ⟨b, e1, hb⟩ := hi j v e
          exact ⟨b, e1, T.keeps hb fun b o e _ => kp b o e⟩
        · obtain ⟨h', g', d', tk', os'⟩ := s'
          have eg : g' = s.gens := mv.gens
          have ed : d' = s.drawn := mv.drawn
          have eo : os' = s.os := mv.os
          have et := mv.toks
          subst eg; subst ed; subst eo
          refine wpAny_pure (show wpAny _ _ (ret Value.none) _ _ _ from wpAny_pure ⟨rfl, h', tk', rfl, by rw [el]; exact hS', fun b o e => ?_, et⟩)
          have lb := Heap.lt_size e
          refine mv.heap b o (fun z => ?_) (kp b o e)
          rw [sz] at z
          rcases List.mem_cons.mp z with z | z
          · exact Nat.ne_of_lt lb z
          · exact Nat.ne_of_lt (Nat.lt_succ_of_lt lb) (List.mem_singleton.mp z)
      · cases r₂ with
        | error e => exact hq₂
        | ok fl₂ =>
          cases fl₂ with
          | ret r =>
            obtain ⟨rfl, h', tk, rfl, hS', hk', ht⟩ := hq₂
            repeat (any_goals (first | assumption | wp_step))
            exact h _ _ hS' hk' ht
          | _ => exact hq₂.elim
    | _ => exact hq.elim
end
end PySem
namespace PySem
open SetTable
namespace F
theorem owner_set_iterator' : Manifest.owners.lookup (String.ofList ['r', 'o', 't', 'a', 'r', 'e', 't', 'i', '_', 't', 'e', 's'].reverse) = some Manifest.sig_set_iterator := by kernel_rfl
theorem slot_seti_next : Slot "set_iterator" "__next__" "set_iterator.__next__" :=
  .of (owner := "set_iterator") (n := "__next__") (by rw [typeLookup_type, builtinLookup_eq_fast]; kernel_rfl) (by decide +kernel) (by decide +kernel) (by decide +kernel)
    (by first | exact .inl (by decide +kernel) | exact .inr (by decide +kernel)) (by rw [isSubtype_type]; kernel_rfl)
theorem entry_seti_next : entryFor table "set_iterator.__next__" = some Builtin.«set_iterator.__next__» := entryFor_of_tree (by kernel_rfl)
theorem args_seti_next_1 (a : Value) : argsOk "set_iterator.__next__" ⟨[a], []⟩ := by
  unfold argsOk; rw [signature?_of (id := "set_iterator.__next__") (n := ['_', '_', 't', 'x', 'e', 'n', '_', '_']) (o := ['r', 'o', 't', 'a', 'r', 'e', 't', 'i', '_', 't', 'e', 's']) (by kernel_rfl) owner_set_iterator']; kernel_rfl
theorem slot_seti_iter : Slot "set_iterator" "__iter__" "set_iterator.__iter__" :=
  .of (owner := "set_iterator") (n := "__iter__") (by rw [typeLookup_type, builtinLookup_eq_fast]; kernel_rfl) (by decide +kernel) (by decide +kernel) (by decide +kernel)
    (by first | exact .inl (by decide +kernel) | exact .inr (by decide +kernel)) (by rw [isSubtype_type]; kernel_rfl)
theorem args_seti_iter_1 (a : Value) : argsOk "set_iterator.__iter__" ⟨[a], []⟩ := by
  unfold argsOk; rw [signature?_of (id := "set_iterator.__iter__") (n := ['_', '_', 'r', 'e', 't', 'i', '_', '_']) (o := ['r', 'o', 't', 'a', 'r', 'e', 't', 'i', '_', 't', 'e', 's']) (by kernel_rfl) owner_set_iterator']; kernel_rfl
theorem entry_seti_iter : entryFor table "set_iterator.__iter__" = some Builtin.«dict_keyiterator.__iter__» :=
  entryFor_alias (id' := "dict_keyiterator.__iter__") (by kernel_rfl) (by first | rfl | decide +kernel | (unfold String.splitOn; simp +decide [String.splitOnAux])) (by decide +kernel) (by kernel_rfl)
theorem entry_set_iter' : entryFor table "set.__iter__" = some Builtin.«frozenset.__iter__» :=
  entryFor_alias (id' := "frozenset.__iter__") (by kernel_rfl) (by first | rfl | decide +kernel | (unfold String.splitOn; simp +decide [String.splitOnAux])) (by decide +kernel) (by kernel_rfl)
theorem set_len_look : typeLookup (.type "set") "__len__" = pure (some (.builtin "set.__len__")) := by rw [typeLookup_type, builtinLookup_eq_fast]; kernel_rfl
end F
theorem eraseIdx_perm {α : Type} : ∀ (l : List α) (i : Nat) (x : α), l[i]? = some x → (x :: l.eraseIdx i).Perm l
  | [], i, x, h => by simp at h
  | a :: l, 0, x, h => by
    simp only [List.getElem?_cons_zero, Option.some.injEq] at h
    subst h
    exact List.Perm.refl _
  | a :: l, i + 1, x, h => by
    simp only [List.getElem?_cons_succ] at h
    exact (List.Perm.swap a x _).trans ((eraseIdx_perm l i x h).cons a)
theorem pick_go {α : Type} (next : Nat → Nat) : ∀ (fuel k : Nat) (left : List α) (out : Array α), left.length ≤ fuel → (pickOrder.go next fuel k left out).toList.Perm (out.toList ++ left)
  | 0, k, left, out, h => by
    have : left = [] := List.length_eq_zero_iff.mp (Nat.le_zero.mp h)
    subst this
    unfold pickOrder.go
    rw [List.append_nil]
  | fuel + 1, k, left, out, h => by
    unfold pickOrder.go
    cases c : left[next k % left.length]? with
    | none =>
      have : left = [] := by
        cases left with
        | nil => rfl
        | cons a l =>
          rw [List.getElem?_eq_none_iff] at c
          have := Nat.mod_lt (next k) (show 0 < (a :: l).length by simp)
          omega
      subst this
      dsimp only
      rw [List.append_nil]
    | some x =>
      dsimp only
      have e := eraseIdx_perm left _ x c
      have l1 := e.length_eq
      rw [List.length_cons] at l1
      refine (pick_go next fuel (k + 1) _ (out.push x) (by omega)).trans ?_
      rw [Array.toList_push, List.append_assoc]
      exact e.append_left out.toList
theorem pick_perm {α : Type} (next : Nat → Nat) (xs : Array α) : (pickOrder next xs).toList.Perm xs.toList := by
  unfold pickOrder
  exact pick_go next xs.size 0 xs.toList #[] (by simp)
def setOrd (w : World) (S : Addr) (ep : Nat) (es : Array (Int × Value)) : Array (Int × Value) := if w.params.followText "set-order" then pickOrder (w.params.setOrder S ep) es else es
theorem ord_perm (w : World) (S : Addr) (ep : Nat) (es : Array (Int × Value)) : (setOrd w S ep es).toList.Perm es.toList := by
  unfold setOrd
  split
  · exact pick_perm _ _
  · exact List.Perm.refl _
theorem ord_size (w : World) (S : Addr) (ep : Nat) (es : Array (Int × Value)) : (setOrd w S ep es).size = es.size := by
  have := (ord_perm w S ep es).length_eq
  simpa using this
def IsSetIter (h : Heap) (I S : Addr) (slot i n ep : Nat) : Prop := ∃ o, h.get? I = some o ∧ o.cls = .type "set_iterator" ∧ o.data = .fields #[.int slot 0, .int i 0, .ref S, .int n 0, .int ep 0]
theorem IsSetIter.typeIs {s : Shared} {I S : Addr} {slot i n ep : Nat} (x : IsSetIter s.heap I S slot i n ep) : s.TypeIs (.ref I) "set_iterator" := let ⟨o, ho, hc, _⟩ := x; ⟨o, ho, hc⟩
structure SetW (w : World) (h : Heap) (S : Addr) (es : Array (Int × Value)) (ep : Nat) (t : SetTable) : Prop where
  at' : ∃ o, h.get? S = some o ∧ o.ExactSet ∧ o.data = .set es ep t
  good : t.Good es.size
  rise : Rise t.place
  led : t.led = !(w.params.followText "set-order")
  plain : t.plain = true
section
variable {prog : Program} {w : World} {A : Around} {E : Value → Shared → Prop} {s : Shared} {I S : Addr} {es : Array (Int × Value)} {ep slot i : Nat} {t : SetTable}
theorem place_size (g : t.Good es.size) : t.place.size = es.size := by
  have := g.fits
  simp only [SetTable.fits, Bool.and_eq_true, beq_iff_eq, decide_eq_true_eq] at this
  exact this.1
theorem next_set (x : SetW w s.heap S es ep t) (hb : w.params.followText "set-order" = false → below t.place slot = i) {Q : Option (Value × Nat) → Shared → Prop}
    (h1 : ∀ (e : Int × Value) (next : Nat), (setOrd w S ep es)[i]? = some e → (w.params.followText "set-order" = false → below t.place next = i + 1) → Q (some (e.2, next)) s) (h2 : (setOrd w S ep es)[i]? = none → Q none s) :
    wpAny (model prog w) A (setNext S slot i ep) Q E s := by
  obtain ⟨o, ho, hex, hd⟩ := x.at'
  unfold setNext setsByText
  refine wpAny_bind (wpAny_setState_of ho hd x.good.fits ?_)
  refine wpAny_bind (wpAny_bind (wpAny_askSetting (wpAny_pure ?_)))
  dsimp only
  show wpAny _ _ (if w.params.followText "set-order" = true then _ else _) _ _ _
  unfold setOrd at h1 h2
  cases c : w.params.followText "set-order" with
  | true =>
    rw [c] at h1 h2
    simp only [if_true] at h1 h2 ⊢
    rw [if_neg (by simp)]
    unfold setWalk setsByText
    refine wpAny_bind (wpAny_bind (wpAny_setState_of ho hd x.good.fits ?_))
    refine wpAny_bind (wpAny_bind (wpAny_askSetting (wpAny_pure ?_)))
    dsimp only
    show wpAny _ _ (if w.params.followText "set-order" = true then _ else _) _ _ _
    rw [c]
    simp only [if_true]
    refine wpAny_bind (wpAny_askSetting (wpAny_pure (wpAny_pure ?_)))
    show Q (((pickOrder (w.params.setOrder S ep) es)[i]?).map fun e => (e.2, slot)) s
    cases e : (pickOrder (w.params.setOrder S ep) es)[i]? with
    | none => exact h2 e
    | some z => exact h1 z slot e (fun z => by simp at z)
  | false =>
    rw [c] at h1 h2
    simp only [Bool.false_eq_true, if_false] at h1 h2 ⊢
    have hl := x.led
    rw [c] at hl
    show wpAny _ _ (if (!t.plain && decide (es.size > 1)) = true then _ else _) _ _ _
    rw [x.plain, if_neg (by simp)]
    refine wpAny_bind (show wpAny _ _ (if (!t.led && !es.isEmpty) = true then _ else _) _ _ _ from ?_)
    rw [hl, if_neg (by simp)]
    refine wpAny_pure (wpAny_pure ?_)
    rw [hb c]
    have ps := place_size x.good
    cases e : es[i]? with
    | none => exact h2 e
    | some z =>
      have li : i < es.size := by
        obtain ⟨l, _⟩ := Array.getElem?_eq_some_iff.mp e
        exact l
      have ep : t.place[i]? = some t.place[i] := Array.getElem?_eq_getElem (by omega)
      rw [ep]
      refine h1 z _ e fun _ => ?_
      obtain ⟨b1, b2, b3⟩ := below_spec x.rise (t.place[i] + 1)
      have lb : ¬ below t.place (t.place[i] + 1) ≤ i := fun z => by
        have := b3 i _ z ep
        omega
      have ub : ¬ i + 1 < below t.place (t.place[i] + 1) := fun z => by
        have l2 : i + 1 < t.place.size := by omega
        have q := b2 (i + 1) _ z (Array.getElem?_eq_getElem l2)
        have q2 := x.rise i (i + 1) _ _ (Nat.lt_succ_self _) ep (Array.getElem?_eq_getElem l2)
        omega
      omega
theorem IsSetIter.upd {h : Heap} {o : Obj} {n slot' : Nat} (ho : h.get? I = some o) (hc : o.cls = .type "set_iterator") (hd : o.data = .fields #[.int slot 0, .int i 0, .ref S, .int n 0, .int ep 0]) :
    IsSetIter ((h.update I (Obj.mapFields (·.setIfInBounds 0 (rawInt slot')))).update I (Obj.mapFields (·.setIfInBounds 1 (rawInt ((i : Int) + 1))))) I S slot' (i + 1) n ep := by
  have h1 := Heap.get?_update_self (Obj.mapFields (·.setIfInBounds 0 (rawInt slot'))) ho (Obj.isFreed_of_fields (Obj.data_mapFields hd _))
  have d1 := Obj.data_mapFields hd (·.setIfInBounds 0 (rawInt slot'))
  have h2 := Heap.get?_update_self (Obj.mapFields (·.setIfInBounds 1 (rawInt ((i : Int) + 1)))) h1 (Obj.isFreed_of_fields (Obj.data_mapFields d1 _))
  refine ⟨_, h2, (Obj.cls_mapFields ..).trans ((Obj.cls_mapFields ..).trans hc), ?_⟩
  rw [Obj.data_mapFields d1]
  simp [rawInt]
theorem next_item {Q : Option Value → Shared → Prop} (hit : IsSetIter s.heap I S slot i es.size ep) (x : SetW w s.heap S es ep t) (ne : S ≠ I) (hb : w.params.followText "set-order" = false → below t.place slot = i) (li : i < es.size)
    (hQ : ∀ (e : Int × Value) (h' : Heap) (next : Nat), (setOrd w S ep es)[i]? = some e → IsSetIter h' I S next (i + 1) es.size ep → (w.params.followText "set-order" = false → below t.place next = i + 1) → (∀ b o, b ≠ I → s.heap.get? b = some o → h'.get? b = some o) → Q (some e.2) { s with heap := h' }) :
    wpAny (model prog w) A (pyNext (.ref I)) Q E s := by
  obtain ⟨o, ho, hc, hd⟩ := id hit
  obtain ⟨oS, hoS, hexS, hdS⟩ := x.at'
  unfold pyNext
  refine wpAny_bind (wpAny_attempt (wpAny_callSpecial?_slot (name := Str.ofString "__next__") hit.typeIs F.slot_seti_next
    (wpAny_call_entry F.slot_seti_next hit.typeIs F.entry_seti_next ?_ (F.args_seti_next_1 _))))
  unfold Builtin.«set_iterator.__next__»
  refine wpAny_bind (m := slotArgs "__next__" 0 _) (wpAny_pure ?_)
  refine wpAny_bind (wpAny_fieldsOf ho hd ?_)
  show wpAny _ _ (setEntries S >>= _) _ _ s
  refine wpAny_bind (wpAny_setEntries_of hoS hdS x.good.fits ?_)
  rw [if_neg (by simp)]
  refine wpAny_bind (m := pure _) (wpAny_pure ?_)
  show wpAny _ _ (setNext S (Int.toNat slot) (Int.toNat i) (Int.toNat ep) >>= _) _ _ s
  simp only [Int.toNat_natCast]
  refine wpAny_bind (next_set x hb (fun e next h1 h2 => ?_) fun h2 => ?_)
  · show wpAny _ _ (setField (.ref I) 0 (rawInt next) >>= _) _ _ s
    refine wpAny_bind (wpAny_setField ho hd (by simp) ?_)
    have h1' := Heap.get?_update_self (Obj.mapFields (·.setIfInBounds 0 (rawInt next))) ho (Obj.isFreed_of_fields (Obj.data_mapFields hd _))
    refine wpAny_bind (wpAny_setField h1' (Obj.data_mapFields hd _) (by simp) ?_)
    refine wpAny_pure ⟨_, rfl, wpAny_pure (hQ e _ next h1 (IsSetIter.upd ho hc hd) h2 fun b o2 nb e2 => ?_)⟩
    rw [Heap.get?_update_other _ _ (Ne.symm nb), Heap.get?_update_other _ _ (Ne.symm nb)]
    exact e2
  · have := ord_size w S ep es
    rw [Array.getElem?_eq_none_iff] at h2
    omega
theorem next_done {Q : Option Value → Shared → Prop} (hh : A.handled = none) (hit : IsSetIter s.heap I S slot es.size es.size ep) (x : SetW w s.heap S es ep t) (hb : w.params.followText "set-order" = false → below t.place slot = es.size)
    (hQ : ∀ h', Heap.ExtBut I s.heap h' → Q none { s with heap := h' }) :
    wpAny (model prog w) A (pyNext (.ref I)) Q E s := by
  obtain ⟨o, ho, hc, hd⟩ := id hit
  obtain ⟨oS, hoS, hexS, hdS⟩ := x.at'
  unfold pyNext
  refine wpAny_bind (wpAny_attempt (wpAny_callSpecial?_slot (name := Str.ofString "__next__") hit.typeIs F.slot_seti_next
    (wpAny_call_entry F.slot_seti_next hit.typeIs F.entry_seti_next ?_ (F.args_seti_next_1 _))))
  unfold Builtin.«set_iterator.__next__»
  refine wpAny_bind (m := slotArgs "__next__" 0 _) (wpAny_pure ?_)
  refine wpAny_bind (wpAny_fieldsOf ho hd ?_)
  show wpAny _ _ (setEntries S >>= _) _ _ s
  refine wpAny_bind (wpAny_setEntries_of hoS hdS x.good.fits ?_)
  rw [if_neg (by simp)]
  refine wpAny_bind (m := pure _) (wpAny_pure ?_)
  show wpAny _ _ (setNext S (Int.toNat slot) (Int.toNat es.size) (Int.toNat ep) >>= _) _ _ s
  simp only [Int.toNat_natCast]
  refine wpAny_bind (next_set x hb (fun e next h1 h2 => ?_) fun h2 => ?_)
  · obtain ⟨l, _⟩ := Array.getElem?_eq_some_iff.mp h1
    rw [ord_size] at l
    omega
  · show wpAny _ _ (setField (.ref I) 2 .none >>= _) _ _ s
    refine wpAny_bind (wpAny_setField ho hd (by simp) ?_)
    show wpAny _ _ (newExc (.type "StopIteration") [] >>= _) _ _ _
    refine wpAny_bind ?_
    simp only [newExc, newTuple]
    refine wpAny_bind (wpAny_newObj_type ?_ (by size_fits))
    refine wpAny_bind (m := firstArgMember _ _) (wpAny_of_eq (a := Value.none) (by first | rfl | (simp only [firstArgMember]; rfl)) ?_)
    refine wpAny_newObj_type ?_ (by size_fits)
    simp only [raiseNew]
    refine wpAny_bind (wpAny_handled ?_)
    rw [show A.in1.handled = none from hh]
    refine wpAny_bind (wpAny_pure (wpAny_throw ?_))
    refine wpAny_bind (wpAny_isInstance (T := "StopIteration") (b := true) ⟨_, Heap.get?_push_size _ rfl, rfl⟩ isSubtype_stop ?_)
    exact wpAny_pure (hQ _ (((Heap.SameBut.update ..).extBut.push _).push _))
theorem iter_self {n : Nat} {Q : Value → Shared → Prop} (hit : IsSetIter s.heap I S slot i n ep) (h : Q (.ref I) s) : wpAny (model prog w) A (pyIter (.ref I)) Q E s := by
  refine wpAny_pyIter_slot hit.typeIs F.slot_seti_iter (wpAny_call_entry F.slot_seti_iter hit.typeIs F.entry_seti_iter ?_ (F.args_seti_iter_1 _))
  show wpAny _ _ (ret (.ref I)) _ _ s
  exact wpAny_pure ⟨_, rfl, "set_iterator", _, hit.typeIs, F.slot_seti_next.lookup, h⟩
theorem iter_set {Q : Value → Shared → Prop} (x : SetW w s.heap S es ep t)
    (h : Q (.ref s.heap.objs.size) { s with heap := s.heap.push { cls := .type "set_iterator", data := .fields #[.int (0 : Nat) 0, .int (0 : Nat) 0, .ref S, .int es.size 0, .int ep 0] } }) : wpAny (model prog w) A (pyIter (.ref S)) Q E s := by
  obtain ⟨oS, hoS, hexS, hdS⟩ := x.at'
  have hT : s.TypeIs (.ref S) "set" := ⟨oS, hoS, hexS.1⟩
  refine wpAny_pyIter_slot hT F.slot_set_iter (wpAny_call_entry F.slot_set_iter hT F.entry_set_iter' ?_ (F.args_set_iter_1 _))
  unfold Builtin.«frozenset.__iter__» Builtin.Frozenset.slot0 slotArgs
  simp only [List.isEmpty_nil, Bool.not_true, Bool.false_eq_true, ↓reduceIte, bind_assoc, List.length_nil, bne_self_eq_false]
  unfold Builtin.Frozenset.addrOf Builtin.Frozenset.sizeOf
  refine wpAny_bind (wpAny_pure ?_)
  try dsimp only
  refine wpAny_bind (wpAny_pure ?_)
  refine wpAny_bind (wpAny_bind (wpAny_setEntries_of hoS hdS x.good.fits (wpAny_pure ?_)))
  unfold setDrawn setsByText
  refine wpAny_bind (wpAny_bind (wpAny_setState_of hoS hdS x.good.fits ?_))
  refine wpAny_bind (wpAny_bind (wpAny_askSetting (wpAny_pure ?_)))
  dsimp only
  refine wpAny_pure ?_
  show wpAny _ _ (if (!w.params.followText "set-order" && (!t.plain && decide (es.size > 1))) = true then _ else _) _ _ _
  rw [x.plain, if_neg (by simp)]
  refine wpAny_bind (m := pure _) (wpAny_pure ?_)
  refine wpAny_bind (wpAny_setEpoch_of hoS hdS x.good.fits ?_)
  refine wpAny_bind (wpAny_newObj_type (wpAny_pure ⟨_, rfl, "set_iterator", _, ⟨_, Heap.get?_push_size _ rfl, rfl⟩, F.slot_seti_next.lookup, ?_⟩))
  simpa [rawInt] using h
end
end PySem
namespace PySem
open SetTable
theorem SetW.at2 {w : World} {h h' : Heap} {S : Addr} {es : Array (Int × Value)} {ep : Nat} {t : SetTable} (x : SetW w h S es ep t) (k : ∀ o, h.get? S = some o → h'.get? S = some o) : SetW w h' S es ep t := by
  obtain ⟨⟨o, ho, r⟩, a, b, c, d⟩ := x
  exact ⟨⟨o, k o ho, r⟩, a, b, c, d⟩
theorem Walks.set {prog : Program} {w : World} {A : Around} (hh : A.handled = none) (I S : Addr) (ne : S ≠ I) (es : Array (Int × Value)) (ep : Nat) (t : SetTable) :
    Walks prog w A I [I, S] [I] es.size (fun i v => ∃ e, (setOrd w S ep es)[i]? = some e ∧ v = e.2) (fun i h => (∃ slot, IsSetIter h I S slot i es.size ep ∧ (w.params.followText "set-order" = false → below t.place slot = i)) ∧ SetW w h S es ep t) where
  sub := fun b hb => by simp at hb; simp [hb]
  frame := fun i h h' ⟨⟨slot, ⟨o, ho, r⟩, q⟩, x⟩ hk => ⟨⟨slot, ⟨o, hk I (by simp) o ho, r⟩, q⟩, x.at2 fun o e => hk S (by simp) o e⟩
  item := fun i s Q E hi ⟨⟨slot, hit, hb⟩, x⟩ hQ => by
    refine next_item hit x ne hb hi fun e h' next h1 h2 h3 h4 => ?_
    exact hQ _ h' s.toks ⟨e, h1, rfl⟩ ⟨⟨next, h2, h3⟩, x.at2 fun o e => h4 S o ne e⟩ fun b o hb e => h4 b o (fun h => hb (by simp [h])) e
  done := fun s Q E ⟨⟨slot, hit, hb⟩, x⟩ hQ => next_done hh hit x hb fun h' he' => hQ h' s.toks fun b o hb e => he' b o (fun h => hb (by simp [h])) e
  self := fun i s Q E ⟨⟨slot, hit, _⟩, _⟩ hQ => iter_self hit hQ
section
variable {prog : Program} {w : World} {A : Around} {E : Value → Shared → Prop} {s : Shared} {S : Addr} {es : Array (Int × Value)} {ep : Nat} {t : SetTable}
theorem set_room {Q : Bool → Shared → Prop} (hT : s.TypeIs (.ref S) "set") (h : Q false s) : wpAny (model prog w) A (Builtin.List.listLengthHint (.ref S)) Q E s := by
  unfold Builtin.List.listLengthHint
  refine wpAny_bind (wpAny_specialOf hT F.set_len_look ?_)
  have hs : splitId "set.__len__" = some ("set", "__len__") := by decide +kernel
  simp only [hs]
  refine wpAny_bind (wpAny_isInstance (T := "set") (b := true) hT sub_set_self ?_)
  simp only [Bool.not_true, Bool.false_eq_true, if_false]
  refine wpAny_bind (m := pure _) (wpAny_pure ?_)
  show wpAny _ _ (typeOf (.ref S) >>= _) _ _ _
  refine wpAny_bind (wpAny_typeOf hT ?_)
  exact wpAny_pure h
theorem collect_set (hh : A.handled = none) (x : SetW w s.heap S es ep t) (hz : es.size ≤ sizeLine) {Q : List Value → Shared → Prop}
    (h : ∀ (h' : Heap) (tk : Nat), (∀ b o, s.heap.get? b = some o → h'.get? b = some o) → s.heap.objs.size ≤ h'.objs.size → s.toks ≤ tk → Q ((setOrd w S ep es).toList.map (·.2)) { s with heap := h', toks := tk }) : wpAny (model prog w) A (collect (.ref S)) Q E s := by
  obtain ⟨oS, hoS, hexS, hdS⟩ := x.at'
  have lS : S < s.heap.objs.size := Heap.lt_size hoS
  unfold collect
  refine wpAny_bind (wpAny_runValue (codeAny_builtin F.entry_proto_collect ?_))
  rw [Around.under_plainId F.plain_proto_collect _]
  show wpAny _ A.in1 (newList [] >>= fun l => again (.builtin "list.__iadd__" ⟨[l, .ref S], []⟩)) _ _ s
  refine wpAny_bind (wpAny_newObj_type ?_)
  refine wpAny_pure ⟨plainId_quiet F.plain_list_iadd _, codeAny_builtin F.entry_list_iadd ?_⟩
  rw [Around.under_plainId F.plain_list_iadd _]
  have hS₁ : (s.heap.push { cls := .type "list", data := .seq ([] : List Value).toArray }).get? s.heap.objs.size = some { cls := .type "list", data := .seq ([] : List Value).toArray } := Heap.get?_push_size _ rfl
  have x1 : SetW w (s.heap.push { cls := .type "list", data := .seq ([] : List Value).toArray }) S es ep t := x.at2 fun o e => Heap.get?_push_of_some _ e
  have sz1 : (s.heap.push { cls := .type "list", data := .seq ([] : List Value).toArray }).objs.size = s.heap.objs.size + 1 := Heap.size_push ..
  have old1 : ∀ b o, s.heap.get? b = some o → (s.heap.push { cls := .type "list", data := .seq ([] : List Value).toArray }).get? b = some o := fun b o e => Heap.get?_push_of_some _ e
  revert hS₁ x1 sz1 old1
  generalize s.heap.push { cls := .type "list", data := .seq ([] : List Value).toArray } = h1
  intro hS₁ x1 sz1 old1
  have e1 : Builtin.List.listSameRef (.ref s.heap.objs.size) (.ref S) = false := by simp [Builtin.List.listSameRef, Nat.ne_of_gt lS]
  show wpAny _ A.in1 (Builtin.List.listExtendWith (.ref s.heap.objs.size) (.ref S) (.ref s.heap.objs.size)) _ _ _
  unfold Builtin.List.listExtendWith
  have hT1 : Shared.TypeIs { s with heap := h1 } (.ref S) "set" := ⟨oS, old1 S oS hoS, hexS.1⟩
  refine wpAny_bind (wpAny_typeOf hT1 ?_)
  rw [if_neg (by rw [e1]; decide)]
  refine wpAny_bind (iter_set (s := { s with heap := h1 }) x1 ?_)
  dsimp only
  have it2 : IsSetIter (h1.push { cls := .type "set_iterator", data := .fields #[.int (0 : Nat) 0, .int (0 : Nat) 0, .ref S, .int es.size 0, .int ep 0] }) h1.objs.size S 0 0 es.size ep := ⟨_, Heap.get?_push_size _ rfl, rfl, rfl⟩
  have old2 : ∀ b o, h1.get? b = some o → (h1.push { cls := .type "set_iterator", data := .fields #[.int (0 : Nat) 0, .int (0 : Nat) 0, .ref S, .int es.size 0, .int ep 0] }).get? b = some o := fun b o e => Heap.get?_push_of_some _ e
  revert it2 old2
  generalize h1.push { cls := .type "set_iterator", data := .fields #[.int (0 : Nat) 0, .int (0 : Nat) 0, .ref S, .int es.size 0, .int ep 0] } = h2
  intro it2 old2
  have hT2 : Shared.TypeIs { s with heap := h2 } (.ref S) "set" := ⟨oS, old2 S oS (old1 S oS hoS), hexS.1⟩
  refine wpAny_bind (wpAny_holding (set_room hT2 ?_))
  rw [if_pos (by decide)]
  have l2 := old2 _ _ hS₁
  refine wpAny_bind (wpAny_rule ?_)
  refine wpAny_bind (show wpAny _ A.in1 (Builtin.List.listTouch (.ref s.heap.objs.size)) _ _ _ from ?_)
  unfold Builtin.List.listTouch
  refine wpAny_bind (show wpAny _ A.in1 (updateSeq s.heap.objs.size (·.push .none)) _ _ _ from wpAny_updateSeq l2 rfl ?_)
  have l3 := Heap.get?_update_self (Obj.mapSeq (·.push Value.none)) l2 rfl
  refine (show wpAny _ A.in1 (updateSeq s.heap.objs.size (·.pop)) _ _ _ from wpAny_updateSeq l3 rfl ?_)
  have l4 := Heap.get?_update_self (Obj.mapSeq (·.pop)) l3 rfl
  have old4 : ∀ b o, b ≠ s.heap.objs.size → h2.get? b = some o → ((h2.update s.heap.objs.size (Obj.mapSeq (·.push Value.none))).update s.heap.objs.size (Obj.mapSeq (·.pop))).get? b = some o := fun b o nb e => by
    rw [Heap.get?_update_other _ _ (Ne.symm nb), Heap.get?_update_other _ _ (Ne.symm nb)]
    exact e
  dsimp only at l4 ⊢
  revert l4 old4
  generalize (h2.update s.heap.objs.size (Obj.mapSeq (·.push Value.none))).update s.heap.objs.size (Obj.mapSeq (·.pop)) = h4
  intro l4 old4
  have neS : S ≠ s.heap.objs.size := Nat.ne_of_lt lS
  have neI : h1.objs.size ≠ s.heap.objs.size := by rw [sz1]; exact Nat.succ_ne_self _
  have neSI : S ≠ h1.objs.size := by rw [sz1]; exact Nat.ne_of_lt (Nat.lt_succ_of_lt lS)
  have x4 : SetW w h4 S es ep t := x.at2 fun o e => old4 S o neS (old2 S o (old1 S o e))
  have it4 : IsSetIter h4 h1.objs.size S 0 0 es.size ep := by
    obtain ⟨o, ho, r⟩ := it2
    exact ⟨o, old4 _ o neI ho, r⟩
  have b0 : below t.place 0 = 0 := by
    obtain ⟨b1, b2, b3⟩ := below_spec x.rise 0
    rcases Nat.eq_zero_or_pos (below t.place 0) with z | z
    · exact z
    · have := b2 0 _ z (Array.getElem?_eq_getElem (by omega))
      omega
  refine wpAny_pure ⟨plainId_quiet F.plain_extend_loop _, codeAny_extend_loopS (Walks.set (A := A.in1) hh h1.objs.size S neSI es ep t).toS hz _ (by
    intro z
    rcases List.mem_cons.mp z with z | z
    · exact neI z.symm
    · exact neS (List.mem_singleton.mp z).symm) _ es.size 0 _ _ _ rfl (Nat.zero_le _) ⟨⟨0, it4, fun _ => b0⟩, x4⟩ l4 (ItemsOf.nil _) fun s' acc' c' hm hS' hacc => ?_⟩
  show wpAny _ A (load s.heap.objs.size >>= _) _ _ s'
  refine wpAny_bind (wpAny_load hS' ?_)
  refine wpAny_pure ?_
  obtain ⟨h', g', d', tk', os'⟩ := s'
  have eg : g' = s.gens := hm.gens
  have ed : d' = s.drawn := hm.drawn
  have eo : os' = s.os := hm.os
  have et := hm.toks
  subst eg; subst ed; subst eo
  have ea : acc'.toList = (setOrd w S ep es).toList.map (·.2) := by
    apply List.ext_getElem?
    intro i
    rw [List.getElem?_map]
    simp only [Array.getElem?_toList]
    by_cases c : i < es.size
    · have c1 : i < acc'.size := by rw [hacc.1]; exact c
      obtain ⟨e, q1, q2⟩ := hacc.2 i _ (Array.getElem?_eq_getElem c1)
      rw [q1, Array.getElem?_eq_getElem c1, q2]
      rfl
    · rw [Array.getElem?_eq_none (by rw [hacc.1]; omega), Array.getElem?_eq_none (by rw [ord_size]; omega)]
      rfl
  show Q acc'.toList _
  rw [ea]
  refine h h' tk' (fun b o e => ?_) (Nat.le_of_lt (Heap.lt_size hS')) et
  have lb := Heap.lt_size e
  refine hm.heap b o (fun z => ?_) (old4 b o (Nat.ne_of_lt lb) (old2 b o (old1 b o e)))
  rw [sz1] at z
  rcases List.mem_cons.mp z with z | z
  · exact Nat.ne_of_lt lb z
  · exact Nat.ne_of_lt (Nat.lt_succ_of_lt lb) (List.mem_singleton.mp z)
end
end PySem
namespace PySem
open SetTable
def TupKind.only {prog : Program} {w : World} {κ : Type} (T : TupKind prog w κ) (p : Addr → Prop) : TupKind prog w κ where
  is := fun h k b => T.is h k b ∧ p b
  hash := T.hash
  draws := T.draws
  room := T.room
  typ := fun x => T.typ x.1
  keeps := fun x k => ⟨T.keeps x.1 k, x.2⟩
  pyHash := fun hu hk h => T.pyHash hu hk.1 h
  other := fun hu hx hy ne h => T.other hu hx.1 hy.1 ne h
  quiet := fun hk h => T.quiet hk.1 h
  noClass := fun hk h => T.noClass hk.1 h
  byVal := fun hk h => T.byVal hk.1 h
theorem TupSame.only {prog : Program} {w : World} {κ : Type} {T : TupKind prog w κ} (S : TupSame T) (p : Addr → Prop) : TupSame (T.only p) := ⟨fun hr hx hy h => S.same hr hx.1 hy.1 h⟩
theorem same2 {prog : Program} {w : World} {A : Around} {E : Value → Shared → Prop} {s : Shared} {x : List (List Int)} {a b : Addr} {Q : Bool → Shared → Prop} (hu : A.units + 8 < cLine) (hx : IsTup2 prog w s.heap x a) (hy : IsTup2 prog w s.heap x b) (h : Q true s) :
    wpAny (model prog w) A (eqBool (.ref a) (.ref b)) Q E s := by
  unfold eqBool
  try with_reducible refine wpAny_holding ?_
  refine (?_ : wpAny _ _ (if (Value.ref a == Value.ref b) = true then _ else _) Q E s)
  by_cases hab : (Value.ref a == Value.ref b) = true
  · rw [if_pos hab]
    exact (wpAny_pure h : wpAny (model prog w) A (pure true) Q E s)
  · rw [if_neg hab]
    exact wpAny_bind (wpAny_richCompare_same_room (op := .Eq) hx.typ hy.typ F.slot_tuple_eq
      (wpAny_call_entry F.slot_tuple_eq hx.typ F.entry_tuple_eq (eq_tree2 (by show A.units + 1 + 4 < cLine; omega) hx hy (by rw [decide_eq_true rfl]; exact ⟨_, rfl, (fun e => nomatch e), wpAny_truthy_bool h⟩)) (F.args_tuple_eq_2 _ _)) (by omega))
theorem tupTup_same (prog : Program) (w : World) : TupSame (tupTup prog w) := ⟨fun hr hx hy h => same2 hr hx hy h⟩
end PySem
namespace L3
open PySem PySem.Spec PyProof.Rows L2
theorem sorted_col {n : Nat} (hn : n = 2 ∨ n = 3) {P : Program} {w : World} {A : Around} {E : Value → Shared → Prop} {s : Shared} {l : Addr} {vs : List Value} {ps : List (List Pl)} {Q : Value → Shared → Prop} (hu : A.units + 64 < cLine)
    (hc : ∀ (E : Value → Shared → Prop) (Q : List Value → Shared → Prop), (∀ h' tk, Grow s.heap h' → s.heap.objs.size ≤ h'.objs.size → s.toks ≤ tk → Q vs { s with heap := h', toks := tk }) → wpAny (model P w) A.in1 (collect (.ref l)) Q E s)
    (hv : TupsAt n s.heap vs ps) (h64 : vs.length < 64)
    (h : ∀ (out : List Value) (qs : List (List Pl)) (h' : Heap) (a : Addr) (m tk : Nat), (∀ v ∈ out, v ∈ vs) → qs = out.map (tkey n s.heap) → qs.Perm ps → qs.Pairwise (fun p q => lexP q p = false) → Grow s.heap h' → s.heap.objs.size ≤ a → h'.get? a = some (seqObj "list" out.toArray m) → s.toks ≤ tk →
      Q (.ref a) { s with heap := h', toks := tk }) :
    wpAny (model P w) A (call (.builtin "sorted") [.ref l]) Q E s := by
  refine Calls.call_function_entry kind_sorted plain_sorted entry_sorted (args_sorted1 _) ?_
  unfold Builtin.«sorted»
  refine wpAny_bind (m := checkCount "sorted" 1 1 _) (wpAny_pure ?_)
  have lz : vs.length ≤ sizeLine := by rw [sizeLine_eq]; omega
  refine wpAny_bind (hc _ _ fun g tk gk gz ht => ?_)
  refine wpAny_bind (wpAny_newList (hsz := lz) ?_)
  show wpAny (model P w) A.in1 _ _ _ { s with heap := g.push (seqObj "list" vs.toArray 0), toks := tk }
  have at' : (g.push (seqObj "list" vs.toArray 0)).get? g.objs.size = some (seqObj "list" vs.toArray 0) := Heap.get?_push_size _ rfl
  have gk2 : ∀ b o, s.heap.get? b = some o → b ≠ g.objs.size ∧ (g.push (seqObj "list" vs.toArray 0)).get? b = some o := fun b o q => by
    have lb := Heap.lt_size (gk b o q)
    exact ⟨Nat.ne_of_lt lb, Heap.get?_push_of_some _ (gk b o q)⟩
  have hk : KeysOf (kPs n s.heap) (pairsOf vs) := fun p hp => by
    rw [pairsOf_toList] at hp
    obtain ⟨q, a⟩ := hv.mem (zip_self_mem hp).2
    exact ⟨q, kPs_key a⟩
  apply wpAny_bind; apply wpAny_holding
  refine wpAny_call_entry slot_list_sort ⟨_, at', rfl⟩ entry_list_sort (sort_by (κ := kPs n s.heap) (kd := tuples' false) at' hk
    (fun t E Q hg h2 q => kind_ps hn (by omega) (fun v m => ?_) q) (fun t hg => ask_ps hn (by show A.units + 1 + 1 < cLine; omega) fun b o q => hg b o (gk2 b o q).1 (gk2 b o q).2) h64 fun y hp hs => ⟨_, rfl, ?_⟩) (args_list_sort _)
  · obtain ⟨p, a⟩ := hv.mem m
    exact ⟨p, a.grow fun b o q => hg b o (gk2 b o q).1 (gk2 b o q).2⟩
  · refine wpAny_pure ⟨_, rfl, ?_⟩
    have pl : y.toList.Perm (vs.zip vs) := by rw [← pairsOf_toList]; exact Array.perm_iff_toList_perm.mp hp
    have same : ∀ p ∈ y.toList, p.1 = p.2 ∧ p.1 ∈ vs := fun p m => zip_self_mem (pl.mem_iff.mp m)
    have eo : y.map (·.2) = (y.toList.map (·.2)).toArray := by rw [← Array.toList_map, Array.toArray_toList]
    rw [eo]
    have lg : g.objs.size < (g.push (seqObj "list" vs.toArray 0)).objs.size := Heap.lt_size at'
    obtain ⟨m, hm⟩ : ∃ m, (sortedHeap (g.push (seqObj "list" vs.toArray 0)) g.objs.size vs (y.toList.map (·.2)).toArray).get? g.objs.size = some (seqObj "list" (y.toList.map (·.2)).toArray m) := by
      unfold sortedHeap
      have h1 := get?_update_seq at' fun _ => #[]
      have h3 := (Heap.get?_push_ne (((g.push (seqObj "list" vs.toArray 0)).update g.objs.size (Obj.mapSeq fun _ => #[])).push (seqObj "tuple" vs.toArray 0)) g.objs.size (seqObj "list" #[] 0) (by rw [size_push', Heap.size_update]; exact Nat.ne_of_lt (Nat.lt_succ_of_lt lg))).trans
        ((Heap.get?_push_ne ((g.push (seqObj "list" vs.toArray 0)).update g.objs.size (Obj.mapSeq fun _ => #[])) g.objs.size (seqObj "tuple" vs.toArray 0) (by rw [Heap.size_update]; exact Nat.ne_of_lt lg)).trans h1)
      exact ⟨_, get?_update_seq h3 fun _ => (y.toList.map (·.2)).toArray⟩
    refine h (y.toList.map (·.2)) _ _ g.objs.size m tk (fun v m => ?_) rfl ?_ ?_ (fun b o q => ?_) gz hm ht
    · obtain ⟨p, m2, rfl⟩ := List.mem_map.mp m
      rw [← (same p m2).1]; exact (same p m2).2
    · have q := (pl.map (fun p => p.2)).map (tkey n s.heap)
      have e : (vs.zip vs).map (fun p => p.2) = vs := List.map_snd_zip (Nat.le_refl _)
      rw [e, hv.keys] at q
      exact q
    · rw [List.pairwise_iff_getElem]
      intro i j hi hj hij
      have li : i < y.size := by simpa using hi
      have lj : j < y.size := by simpa using hj
      have q := hs i j (Nat.le_of_lt hij) (by rw [← hp.size_eq]; exact lj)
      have key : ∀ k (hk : k < y.size), KK (kPs n s.heap) y k = tkey n s.heap y[k].2 := fun k hk => by
        unfold KK
        rw [getElem?_pos y k hk]
        show Option.getD (α := List Pl) ((kPs n s.heap).keyOf y[k].1) [] = _
        rw [(same y[k] (by simp)).1]
        rfl
      have q : (kPs n s.heap).blt (KK (kPs n s.heap) y j) (KK (kPs n s.heap) y i) = false := q
      rw [key i li, key j lj] at q
      have q : lexP (tkey n s.heap y[j].2) (tkey n s.heap y[i].2) = false := q
      simpa using q
    · obtain ⟨nb, q2⟩ := gk2 b o q
      have lb := Heap.lt_size q2
      unfold sortedHeap
      rw [Heap.get?_update_ne _ _ _ _ nb, Heap.get?_push_ne _ _ _ (by rw [size_push', Heap.size_update]; exact Nat.ne_of_lt (Nat.lt_succ_of_lt lb)), Heap.get?_push_ne _ _ _ (by rw [Heap.size_update]; exact Nat.ne_of_lt lb), Heap.get?_update_ne _ _ _ _ nb]
      exact q2
theorem nodup_of_len {α : Type} {a b : List α} (nd : b.Nodup) (len : a.length = b.length) (sub : ∀ x ∈ b, x ∈ a) : a.Nodup := by
  have pm : b.Perm a := by
    classical
    have go : ∀ (b a : List α), b.Nodup → (∀ x ∈ b, x ∈ a) → a.length = b.length → b.Perm a := by
      intro b
      induction b with
      | nil => intro a _ _ l; rw [List.length_eq_zero_iff.mp l];
      | cons x b ih =>
        intro a nd sub l
        obtain ⟨h1, h2⟩ := List.nodup_cons.mp nd
        have ma := sub x List.mem_cons_self
        have q := ih (a.erase x) h2 (fun y hy => (List.mem_erase_of_ne (show y ≠ x from fun e => h1 (e ▸ hy))).mpr (sub y (List.mem_cons_of_mem _ hy))) (by rw [List.length_erase_of_mem ma, l, List.length_cons]; omega)
        exact (q.cons x).trans (List.perm_cons_erase ma).symm
    exact go b a nd sub len
  exact pm.nodup_iff.mp nd
theorem keys_of_set {P : Program} {w : World} {h : Heap} {es : List (Int × Value)} {ls : List (List (List Int))} {p : Addr → Prop} (nd : ls.Nodup) (sz : es.length = ls.length)
    (c1 : ∀ e ∈ es, ∃ b l, e = (((tupTup P w).only p).hash l, .ref b) ∧ ((tupTup P w).only p).is h l b ∧ l ∈ ls)
    (c2 : ∀ l ∈ ls, ∃ e ∈ es, ∃ b, e = (((tupTup P w).only p).hash l, .ref b) ∧ ((tupTup P w).only p).is h l b) :
    ∃ f : (Int × Value) → List (List Int), (∀ e ∈ es, ∃ b, e.2 = .ref b ∧ IsTup2 P w h (f e) b ∧ p b) ∧ (es.map f).Nodup ∧ ∀ l, l ∈ es.map f ↔ l ∈ ls := by
  have ch : ∀ e : Int × Value, ∃ l, e ∈ es → ∃ b, e = (((tupTup P w).only p).hash l, .ref b) ∧ ((tupTup P w).only p).is h l b ∧ l ∈ ls := fun e => by
    by_cases m : e ∈ es
    · obtain ⟨b, l, q⟩ := c1 e m
      exact ⟨l, fun _ => ⟨b, q⟩⟩
    · exact ⟨[], fun z => absurd z m⟩
  obtain ⟨f, hf⟩ := Classical.axiomOfChoice ch
  have mem : ∀ l, l ∈ es.map f ↔ l ∈ ls := fun l => by
    constructor
    · intro m
      obtain ⟨e, m1, rfl⟩ := List.mem_map.mp m
      obtain ⟨b, _, _, q⟩ := hf e m1
      exact q
    · intro m
      obtain ⟨e, m1, b, e1, i1⟩ := c2 l m
      obtain ⟨b2, e2, i2, _⟩ := hf e m1
      have eb : b2 = b := by
        rw [e1] at e2
        injection e2 with _ e2
        injection e2 with e2
        exact e2.symm
      subst eb
      have := IsTup2.inj i1.1 i2.1
      rw [this]
      exact List.mem_map.mpr ⟨e, m1, rfl⟩
  refine ⟨f, fun e m => ?_, ?_, mem⟩
  · obtain ⟨b, e1, i1, _⟩ := hf e m
    exact ⟨b, by rw [e1], i1.1, i1.2⟩
  · have len : (es.map f).length = ls.length := by rw [List.length_map, sz]
    exact nodup_of_len nd len fun l m => (mem l).mpr m
end L3
namespace L3
open PySem PySem.Spec PyProof.Rows L2
theorem atN_tup2 {P : Program} {w : World} {n : Nat} {h : Heap} {v : Value} {t : List Pl} (a : AtN n h v t) : ∃ b, v = .ref b ∧ IsTup2 P w h (keyT t) b := by
  obtain ⟨_, b, o, its, m, e, h1, h2, h3, h4⟩ := a
  exact ⟨b, e, o, its.toArray, m, h1, h2, h3, by rw [List.toList_toArray]; exact refs_of h4⟩
theorem tupsAt_all {n : Nat} {h : Heap} : ∀ {vs : List Value}, (∀ v ∈ vs, ∃ t, AtN n h v t) → TupsAt n h vs (vs.map (tkey n h))
  | [], _ => .nil
  | v :: vs, q => by
    obtain ⟨t, a⟩ := q v List.mem_cons_self
    refine .cons ?_ (tupsAt_all fun u hu => q u (List.mem_cons_of_mem _ hu))
    rw [tkey_at a]
    exact a
section
variable {X : Cx} {pos : Pos}
def tSortSet (n : Nat) (te : TE3) : TE3 := fun ρ M Q => te ρ M fun d M1 => ∃ ts : List (List Pl), Lst M1 d (ts.map tD) ∧ (∀ t ∈ ts, t.length = n) ∧ ts.length < 64 ∧
  ∀ (p : Addr) (qs : List (List Pl)), M1 p = none → qs.Nodup → (∀ t, t ∈ qs ↔ t ∈ ts) → qs.Pairwise (fun p q => lexP q p = false) → Q (.ref p) (updM M1 p (.lst (qs.map tD)))
theorem q_sortset {n : Nat} (hn : n = 2 ∨ n = 3) {e : Expr} {te : TE3} {p1 p2 pos2 : Pos} (hu : X.A.units + 64 < cLine) (hc : X.calm = true) (hgl : Gl X "sorted") (hml : X.mg "sorted" = none) (hgr : Gl X "set") (hmr : X.mg "set" = none) (he : PE3 X e te)
    (s1 : starEach [e] X.env = [(false, eval e X.env)] := by rfl)
    (s2 : starEach [.Call (.Name "set" p2) [e] [] pos2] X.env = [(false, eval (.Call (.Name "set" p2) [e] [] pos2) X.env)] := by rfl) :
    PE3 X (.Call (.Name "sorted" p1) [.Call (.Name "set" p2) [e] [] pos2] [] pos) (tSortSet n te) := by
  constructor
  intro pins s σ H ρ M Q I r h
  refine wpAny_Call_Name_kw (ld_blt I hgl hml boot3_sorted ?_ (by decide) (by decide))
  refine PyProof.Rows.callWith_builtin1 (Q := EP X pins σ (Post X.K M H Q)) ?_ (by rw [s2]; rfl) (by rfl)
  rw [s2]
  show wpAny _ _ (spliced ((false, eval (.Call (.Name "set" p2) [e] [] pos2) X.env) :: backTo pos [])) _ _ s
  refine Calls.spliced_cons ?_
  refine wpAny_Call_Name_kw (ld_blt I hgr hmr boot3_set ?_ (by decide) (by decide))
  refine PyProof.Rows.callWith_type1 ?_ (by rw [s1]; rfl) (by rfl)
  rw [s1]
  show wpAny _ _ (spliced ((false, eval e X.env) :: backTo pos2 [])) _ _ s
  refine Calls.spliced_cons (thn (he.run pins s σ H ρ M _ I r h) fun v s1 ⟨x, H1, I1, rv, d, M1, f1, dd, rm1, ts, hL, hln, h64, q⟩ => Calls.spliced_nil ?_)
  obtain ⟨a, zs, rfl, hz, hd⟩ := hL.sq rm1 dd
  obtain rfl : v = Value.ref a := rv
  obtain ⟨its, rvv, pl, hsz⟩ := I1.list hz
  have lz : zs.length = its.length := rvv.length
  have ln : its.length = ts.length := by rw [← lz, ← hd.length, List.length_map]
  have get := tups_get (P := X.prog) (w := X.w) I1.hok hd rvv
  refine call_set_any (T := (tupTup X.prog X.w).only fun b => Value.ref b ∈ its) ((tupTup_same X.prog X.w).only _) (key := fun i => match ts[i]? with | some t => keyT t | none => []) (I.ok.hd hc) (by show X.A.units + 1 + 1 + 1 + 8 < cLine; omega) pl.isList (by rw [List.size_toArray]; omega) (fun i v e => ?_) fun h' tk hS kp ht => Calls.spliced_nil ?_
  · have e' : its[i]? = some v := by simpa using e
    obtain ⟨t, e1, b, e2, k⟩ := get i v e'
    refine ⟨b, e2, ?_, ?_⟩
    · rw [e1]
      exact k
    · show Value.ref b ∈ its
      rw [← e2]
      exact List.mem_of_getElem? e'
  · obtain ⟨ls, nd, mem, o, es, ep, t, ho, hex, hd2, g, R, hl, hp, sz, c1, c2⟩ := hS
    have W : SetW X.w h' s1.heap.objs.size es ep t := ⟨⟨o, ho, hex, hd2⟩, g, R.rise, hl, hp⟩
    have sh : ls.length ≤ ts.length := by
      have := nodup_short ls ts.length _ nd fun x hx => by
        obtain ⟨j, hj, ej⟩ := (mem x).mp hx
        exact ⟨j, by rw [List.size_toArray] at hj; omega, ej⟩
      exact this
    obtain ⟨f, f1', fnd, fmem⟩ := keys_of_set nd (by rw [Array.length_toList]; exact sz) c1 c2
    have I2 : Inv X pins σ H1 { s1 with heap := h', toks := tk } := I1.kept kp
    have tat := tupsAt_of I1.hok hln hd rvv
    have one : ∀ e ∈ es.toList, ∃ t, AtN n h' e.2 t ∧ f e = keyT t ∧ e.2 ∈ its := fun e m => by
      obtain ⟨b, eb, i1, i2⟩ := f1' e m
      obtain ⟨t, at'⟩ := tat.mem i2
      have at2 := at'.grow (h' := h') kp
      obtain ⟨b2, e2, i3⟩ := atN_tup2 (P := X.prog) (w := X.w) at2
      injection e2 with e2
      subst e2
      exact ⟨t, by rw [eb]; exact at2, i1.inj i3, by rw [eb]; exact i2⟩
    have pm := ord_perm X.w s1.heap.objs.size ep es
    have vin : ∀ v ∈ (setOrd X.w s1.heap.objs.size ep es).toList.map (·.2), v ∈ its ∧ ∃ t, AtN n h' v t := fun v m => by
      obtain ⟨e, m1, rfl⟩ := List.mem_map.mp m
      obtain ⟨t, a1, _, a3⟩ := one e (pm.mem_iff.mp m1)
      exact ⟨a3, t, a1⟩
    have lv : ((setOrd X.w s1.heap.objs.size ep es).toList.map (·.2)).length < 64 := by
      rw [List.length_map, Array.length_toList, ord_size, sz]
      omega
    have km : (((setOrd X.w s1.heap.objs.size ep es).toList.map (·.2)).map (tkey n h')).map keyT = (setOrd X.w s1.heap.objs.size ep es).toList.map f := by
      rw [List.map_map, List.map_map]
      refine List.map_congr_left fun e m => ?_
      obtain ⟨t, a1, a2, _⟩ := one e (pm.mem_iff.mp m)
      show keyT (tkey n h' e.2) = f e
      rw [tkey_at a1, a2]
    refine sorted_col (s := { s1 with heap := h', toks := tk }) hn hu (fun E Q hQ => collect_set (A := X.A.in1) (I.ok.hd hc) W (by rw [sz, sizeLine_eq]; omega) fun h2 tk2 g1 g2 g3 => hQ h2 tk2 g1 g2 g3) (tupsAt_all fun v m => (vin v m).2) lv fun out qs h2 a2 m tk2 hm eq hp2 hs2 gr ge ga gt => ?_
    obtain ⟨ws, w1, w2⟩ := dats_pickT (h := h') I2.hok hln hd rvv out fun v hv => (vin v (hm v hv)).1
    have eq' : qs = out.map (tkey n h') := eq
    rw [← eq'] at w2
    have fr : H1 a2 = none := I2.hok.fresh ge
    have zw : ws.length ≤ sizeLine := by
      rw [← w2.length, List.length_map, hp2.length_eq, List.length_map, sizeLine_eq]; omega
    have kn : (((setOrd X.w s1.heap.objs.size ep es).toList.map (·.2)).map (tkey n h')).Nodup := by
      have z : ((((setOrd X.w s1.heap.objs.size ep es).toList.map (·.2)).map (tkey n h')).map keyT).Nodup := by
        rw [km]
        exact ((pm.map f).nodup_iff).mpr fnd
      exact (List.pairwise_map.mp z).imp fun hne e => hne (by rw [e])
    have I3 : Inv X pins σ (upd H1 a2 (.lst ws)) { s1 with heap := h2, toks := tk2 } := I2.laid (t' := tk2) gr ge ⟨zw, out, m, w1, ga⟩
    refine ⟨.ref a2, upd H1 a2 (.lst ws), I3, rfl, .ref _, updM M1 _ (.lst (qs.map tD)), f1.trans (Fr.new fr fun _ hb => updM_ne hb), dat_ref.mpr rfl, rm1.newL fr w2, q _ _ (rm1.free fr) (hp2.nodup_iff.mpr kn) (fun t => ?_) hs2⟩
    rw [hp2.mem_iff]
    constructor
    · intro m
      have m2 := List.mem_map_of_mem (f := keyT) m
      rw [km, (pm.map f).mem_iff, fmem, mem] at m2
      obtain ⟨j, hj, ej⟩ := m2
      rw [List.size_toArray] at hj
      dsimp only at ej
      rw [List.getElem?_eq_getElem (by omega)] at ej
      rw [← keyT_inj ej]
      exact List.getElem_mem _
    · intro m
      obtain ⟨j, hj, ej⟩ := List.getElem_of_mem m
      have : keyT t ∈ (((setOrd X.w s1.heap.objs.size ep es).toList.map (·.2)).map (tkey n h')).map keyT := by
        rw [km, (pm.map f).mem_iff, fmem, mem]
        refine ⟨j, by rw [List.size_toArray]; omega, ?_⟩
        dsimp only
        rw [List.getElem?_eq_getElem hj, ej]
      obtain ⟨t2, m2, e2⟩ := List.mem_map.mp this
      rw [← keyT_inj e2]
      exact m2
end
end L3
namespace PySem
theorem RefsAre.keepsD {prog : Program} {w : World} {h h' : Heap} {ks : List (List Int)} {vs : List Value} {d : Addr} {o : Obj} {es : Array DictEntry} {ep : Nat} (x : RefsAre prog w h ks vs) (ho : h.get? d = some o) (hd : o.data = .dict es ep) (hs : Heap.SameBut d h h') : RefsAre prog w h' ks vs := by
  induction x with
  | nil => exact .nil
  | cons a _ ih => exact .cons (a.keeps ho hd hs) ih
def tup2Kind (prog : Program) (w : World) : HeapKind prog w (List (List Int)) where
  is := IsTup2 prog w
  hash := hash2 prog w
  draws := drawn2
  room := fun A => A.units + 8 < cLine
  inj := fun hx hy => hx.inj hy
  keeps := fun {h h' k a d o es ep} x ho hd hs => by
    obtain ⟨o', items, n, ho', hc, hd', hi⟩ := x
    have hne : a ≠ d := by
      rintro rfl
      obtain rfl : o' = o := Option.some.inj (ho'.symm.trans ho)
      rw [hd] at hd'; exact nomatch hd'
    exact ⟨o', items, n, (hs.2 a hne).trans ho', hc, hd', hi.keepsD ho hd hs⟩
  pyHash := fun hu hk h => hash_tup2 hu hk h
  eqBool := fun {A E s x y a b Q} hu hx hy h => by
    by_cases e : x = y
    · subst e
      rw [decide_eq_true rfl] at h
      exact same2 hu hx hy h
    · rw [decide_eq_false e] at h
      exact other2 hu hx hy e h
  quiet := fun hk h => quiet2 hk h
theorem wpAny_notIn_hp {prog : Program} {w : World} {K : Type} [DecidableEq K] {knd : HeapKind prog w K} {A : Around} {E : Value → Shared → Prop} {s : Shared} {d a : Addr} {k : K} {xs : List (K × Addr × Value)} {Q : Value → Shared → Prop} (hu : knd.room A.in1) (hkey : knd.is s.heap k a) (hd : (d == sysModules) = false) (hm : s.heap.DictOfH knd d xs)
    (h : Q (.bool (!(atKey xs k).isSome)) { s with toks := s.toks + knd.draws k }) : wpAny (model prog w) A (compareOp .NotIn (.ref a) (.ref d)) Q E s := by
  show wpAny _ _ (do return .bool (!(← contains (.ref d) (.ref a)))) Q E s
  refine wpAny_bind ?_
  unfold contains
  try with_reducible refine wpAny_holding ?_
  refine wpAny_bind (wpAny_specialOf hm.typeIs slot_dict_contains.lookup ?_)
  show wpAny _ _ (if (some (Value.builtin "dict.__contains__") == some Value.none) = true then _ else _) _ E s
  rw [if_neg (by rw [beq_builtin_none]; exact Bool.false_ne_true)]
  refine wpAny_bind (wpAny_callSpecialUnlessNone?_slot (name := Str.ofString "__contains__") hm.typeIs slot_dict_contains
    (wpAny_call_entry slot_dict_contains hm.typeIs entry_dict_contains ?_ (args_dict_contains _ _)))
  show wpAny _ _ (dictGet d (.ref a) >>= _) _ _ s
  refine wpAny_bind (wpAny_dictGet_heap hu hkey hm ?_)
  cases hf : atKey xs k with
  | some p =>
    rw [hf] at h
    show wpAny _ _ (ret (.bool true)) _ _ _
    exact wpAny_pure ⟨_, rfl, wpAny_truthy_bool (wpAny_pure h)⟩
  | none =>
    rw [hf] at h
    show wpAny _ _ (Builtin.Dict.pendingKey? d (.ref a) >>= _) _ _ _
    exact wpAny_bind (wpAny_pendingKey_other hd (wpAny_pure ⟨_, rfl, wpAny_truthy_bool (wpAny_pure h)⟩))
end PySem
namespace L3
open PySem PySem.Spec PyProof.Rows L2
def getD2 (kvs : List (List (List Int) × D)) (k : List (List Int)) : Option D := (kvs.find? fun p => decide (p.1 = k)).map (·.2)
def putD2 (kvs : List (List (List Int) × D)) (k : List (List Int)) (d : D) : List (List (List Int) × D) := if (getD2 kvs k).isSome then kvs.map fun p => if p.1 = k then (p.1, d) else p else kvs ++ [(k, d)]
theorem ints_key {P : Program} {w : World} {K : PySem.W.Frag} {H : Hp} {h : Heap} (ok : HOk P w H h) {l : List Int} {v : V} {u : Value} (d : Dat K H (.tup (l.map .int)) v) (r : RelV v u) : ∃ b, u = .ref b ∧ IsTupleKey (intKind P w) h l b := by
  obtain ⟨a, xs, rfl, ha, hx⟩ := dat_tup.mp d
  obtain rfl : u = Value.ref a := r
  obtain ⟨its, rv, ⟨o, h1, h2, n, h3⟩, hsz⟩ := tup_at ok ha
  refine ⟨a, rfl, o, its.toArray, n, h1, h2, h3, ?_⟩
  rw [List.toList_toArray]
  clear h3 h2 h1 ha d hsz
  induction l generalizing xs its with
  | nil =>
    rw [dats_nil.mp hx] at rv
    cases rv
    exact .nil
  | cons i l ih =>
    obtain ⟨v, vs, rfl, d1, d2⟩ := dats_cons.mp hx
    cases rv with
    | cons r1 r2 =>
      obtain rfl := dat_int.mp d1
      obtain ⟨t, rfl⟩ := r1
      exact .cons (intKind_is _ _ _ _) (ih _ d2 _ r2)
theorem kD_key {P : Program} {w : World} {K : PySem.W.Frag} {H : Hp} {h : Heap} (ok : HOk P w H h) {k : List (List Int)} {b : Addr} (d : Dat K H (kD k) (.ref b)) : IsTup2 P w h k b := by
  obtain ⟨a, xs, e, ha, hx⟩ := dat_tup.mp d
  cases e
  obtain ⟨its, rv, ⟨o, h1, h2, n, h3⟩, hsz⟩ := tup_at ok ha
  refine ⟨o, its.toArray, n, h1, h2, h3, ?_⟩
  rw [List.toList_toArray]
  clear h3 h2 h1 ha d hsz
  induction k generalizing xs its with
  | nil =>
    rw [show ([] : List (List Int)).map (fun l => D.tup (l.map .int)) = [] from rfl] at hx
    rw [dats_nil.mp hx] at rv
    cases rv
    exact .nil
  | cons l k ih =>
    rw [List.map_cons] at hx
    obtain ⟨v, vs, rfl, d1, d2⟩ := dats_cons.mp hx
    cases rv with
    | cons r1 r2 =>
      obtain ⟨b, rfl, q⟩ := ints_key ok d1 r1
      exact .cons q (ih _ d2 _ r2)
theorem paired_mem {α β : Type} {F : α → β → Prop} : ∀ {l₁ : List α} {l₂ : List β}, Paired F l₁ l₂ → ∀ y ∈ l₂, ∃ x ∈ l₁, F x y
  | _, _, .nil, y, m => by cases m
  | _, _, .cons r t, y, m => by
    rcases List.mem_cons.mp m with rfl | m
    · exact ⟨_, List.mem_cons_self, r⟩
    · obtain ⟨x, m1, q⟩ := paired_mem t y m
      exact ⟨x, List.mem_cons_of_mem _ m1, q⟩
theorem paired_len {α β : Type} {F : α → β → Prop} : ∀ {l₁ : List α} {l₂ : List β}, Paired F l₁ l₂ → l₁.length = l₂.length
  | _, _, .nil => rfl
  | _, _, .cons _ t => by simp [paired_len t]
theorem dic_at {P : Program} {w : World} {K : PySem.W.Frag} {H : Hp} {h : Heap} (ok : HOk P w H h) {a : Addr} {xs : DX} {kvs : List (List (List Int) × D)} (hH : H a = some (.ext (DicO a xs))) (nd : (xs.map (·.1)).Nodup) (pk : Paired (KvOk K H) kvs xs) : h.DictOfH (tup2Kind P w) a xs := by
  obtain ⟨⟨o, es, ep, h1, h2, h3, h4⟩, _⟩ := (show ObjOk P w H h a (.ext (DicO a xs)) from ok a _ hH)
  refine ⟨o, es, ep, h1, h2, h3, h4, fun x m => ?_, nd⟩
  obtain ⟨p, _, e, q, _⟩ := paired_mem pk x m
  rw [← e]
  exact kD_key ok q
theorem get_pair {K : PySem.W.Frag} {H : Hp} (k : List (List Int)) : ∀ {kvs : List (List (List Int) × D)} {xs : DX}, Paired (KvOk K H) kvs xs → (getD2 kvs k = none ∧ atKey xs k = none) ∨ ∃ d p v, getD2 kvs k = some d ∧ atKey xs k = some p ∧ Dat K H d v ∧ RelV v p.2
  | _, _, .nil => .inl ⟨rfl, rfl⟩
  | _, _, .cons (a := p) (b := x) r t => by
    obtain ⟨e, _, v, dv, rv⟩ := r
    unfold getD2 atKey
    rw [List.find?_cons, List.find?_cons, ← e]
    by_cases c : p.1 = k
    · rw [decide_eq_true c]
      exact .inr ⟨p.2, x.2, v, rfl, rfl, dv, rv⟩
    · rw [decide_eq_false c]
      exact get_pair k t
theorem put_pair {K : PySem.W.Frag} {H : Hp} {k : List (List Int)} {a : Addr} {d : D} {v : V} {u : Value} (hk : Dat K H (kD k) (.ref a)) (hd : Dat K H d v) (r : RelV v u) {kvs : List (List (List Int) × D)} {xs : DX} (pk : Paired (KvOk K H) kvs xs) : Paired (KvOk K H) (putD2 kvs k d) (storedH xs k a u) := by
  have app : ∀ {l₁ : List (List (List Int) × D)} {l₂ : DX}, Paired (KvOk K H) l₁ l₂ → Paired (KvOk K H) (l₁ ++ [(k, d)]) (l₂ ++ [(k, a, u)]) := by
    intro l₁ l₂ p
    induction p with
    | nil => exact .cons ⟨rfl, hk, v, hd, r⟩ .nil
    | cons q _ ih => exact .cons q ih
  have rep : ∀ {l₁ : List (List (List Int) × D)} {l₂ : DX}, Paired (KvOk K H) l₁ l₂ → Paired (KvOk K H) (l₁.map fun p => if p.1 = k then (p.1, d) else p) (l₂.map (putAt k u)) := by
    intro l₁ l₂ p
    induction p with
    | nil => exact .nil
    | @cons p x _ _ q _ ih =>
      refine .cons ?_ ih
      obtain ⟨e, q1, q2⟩ := q
      unfold putAt
      dsimp only
      rw [← e]
      by_cases c : p.1 = k
      · rw [if_pos c, if_pos c]
        exact ⟨rfl, q1, v, hd, r⟩
      · rw [if_neg c, if_neg c]
        exact ⟨e, q1, q2⟩
  unfold putD2
  rcases get_pair k pk with ⟨h1, h2⟩ | ⟨z, p, _, h1, h2, _⟩
  · rw [h1, storedH_new h2]
    exact app pk
  · rw [h1, storedH_old h2]
    exact rep pk
section
variable {X : Cx} {pos : Pos} {a b : Expr} {ta tb : TE3}
theorem inv_big {pins : List (Addr × Obj)} {σ : St} {H : Hp} {s : Shared} (I : Inv X pins σ H s) : sysModules < s.heap.objs.size := Nat.lt_trans (show sysModules < mainGlobals by decide) (I.mod.glob.keeps I.bk).lt
def tDNew2 : TE3 := fun _ M Q => ∀ p, M p = none → Q (.ref p) (updM M p (.dic []))
theorem q_dnew : PE3 X (.Dict [] [] pos) tDNew2 := by
  constructor
  intro pins s σ H ρ M Q I r h
  have fr : H s.heap.objs.size = none := I.hok.fresh (Nat.le_refl _)
  refine wpAny_Dict_empty ⟨.ref s.heap.objs.size, _, I.laid (a := s.heap.objs.size) (o := .ext (DicO s.heap.objs.size [])) (t' := s.toks) (fun _ _ q => Heap.get?_push_of_some _ q) (Nat.le_refl _) ⟨⟨_, #[], 0, Heap.get?_push_size _ rfl, ⟨rfl, rfl, rfl⟩, rfl, rfl⟩, ⟨_, Heap.get?_push_size _ rfl⟩, ?_⟩, rfl, .ref _, updM M _ (.dic []), Fr.new fr fun _ hb => updM_ne hb, dat_ref.mpr rfl, r.mem.newD fr (beq_eq_false_iff_ne.mpr (Ne.symm (Nat.ne_of_lt (inv_big I)))), h _ (r.mem.free fr)⟩
  rintro h1 h2 ⟨o, es, ep, e, q⟩ k
  exact ⟨o, es, ep, k o e, q⟩
def rInDic (neg : Bool) : R3 := fun d e M Q => ∃ a k kvs, d = kD k ∧ e = .ref a ∧ M a = some (.dic kvs) ∧ Q (.bl (neg != (getD2 kvs k).isSome)) M
theorem dic_ref {K : PySem.W.Frag} {H : Hp} {k : List (List Int)} {v : V} (d : Dat K H (kD k) v) : ∃ b, v = .ref b := by
  obtain ⟨b, _, e, _⟩ := dat_tup.mp d
  exact ⟨b, e⟩
theorem o_notInDic (hu : X.A.units + 64 < cLine) : Op3 X (compareOp .NotIn) (rInDic true) := by
  constructor
  intro pins s σ H M x y d e v u Q I rm rx ry dx dy ⟨a, k, kvs, e1, e2, hM, q⟩
  subst e1; subst e2
  obtain ⟨b, rfl⟩ := dic_ref dx
  obtain rfl := dat_ref.mp dy
  obtain rfl : v = Value.ref b := rx
  obtain rfl : u = Value.ref a := ry
  obtain ⟨xs, hH, hy, nd, pk⟩ := rm.dic hM
  refine wpAny_notIn_hp (knd := tup2Kind X.prog X.w) (by show X.A.units + 1 + 8 < cLine; omega) (kD_key I.hok dx) hy (dic_at I.hok hH nd pk) ⟨.bl _, H, I.tok _, rfl, post_self rm (dat_bl.mpr rfl) ?_⟩
  rcases get_pair k pk with ⟨h1, h2⟩ | ⟨_, p, _, h1, h2, _⟩
  · rw [h2]; rw [h1] at q; exact q
  · rw [h2]; rw [h1] at q; exact q
def rIxD2 (K : PySem.W.Frag) : R2 := fun x y H Q => ∃ (a b : Addr) (xs : DX) (kvs : List (List (List Int) × D)) (k : List (List Int)) (p : Addr × Value) (v : V), x = .ref a ∧ y = .ref b ∧ H a = some (.ext (DicO a xs)) ∧ (xs.map (·.1)).Nodup ∧ Paired (KvOk K H) kvs xs ∧ Dat K H (kD k) (.ref b) ∧ atKey xs k = some p ∧ RelV v p.2 ∧ Q v H
theorem ix_dic (hu : X.A.units + 64 < cLine) : IxR X (rIxD2 X.K) := by
  intro value slice pins s σ H x y v u Q I rx ry hx hs
  obtain ⟨a, b, xs, kvs, k, p, z, e1, e2, hH, nd, pk, dk, hp, rz, q⟩ := hx
  subst e1; subst e2
  obtain rfl : v = Value.ref a := rx
  obtain rfl : u = Value.ref b := ry
  have dd := dic_at I.hok hH nd pk
  exact subscriptTail_builtinR (x := p.2) dd.typeIs slot_dict_getitem.lookup
    (wpAny_getItem_heap (knd := tup2Kind X.prog X.w) (Q := fun r s' => r = p.2 ∧ EP X pins σ Q r s') (by show X.A.units + 1 + 8 < cLine; omega) (kD_key I.hok dk) dd hp ⟨rfl, z, H, I.tok _, rz, q⟩) hs
def rIxD3 : R3 := fun d e M Q => ∃ a k kvs z, d = .ref a ∧ e = kD k ∧ M a = some (.dic kvs) ∧ getD2 kvs k = some z ∧ Q z M
theorem q_ixD (hu : X.A.units + 64 < cLine) (ha : PE3 X a ta) (hb : PE3 X b tb) (hs : PlainIx b := by intro _ _; rfl) : PE3 X (.Subscript a b pos) (tBin rIxD3 ta tb) := up (pe_ix (ix_dic hu) ha.dn hb.dn hs) fun σ H ρ M Q r q =>
  dn_of r q fun v H' d M' f dv r' q => dn_of r' q fun u H2 e M2 f2 du r2 ⟨l, k, kvs, z, e1, e2, hM, g, q2⟩ => by
    subst e1; subst e2
    obtain rfl := dat_ref.mp dv
    obtain ⟨b, rfl⟩ := dic_ref du
    obtain ⟨xs, hH, hy, nd, pk⟩ := r2.mem.dic hM
    rcases get_pair k pk with ⟨h1, h2⟩ | ⟨z', p, v, h1, h2, dz, rz⟩
    · rw [h1] at g; cases g
    · rw [g] at h1
      cases h1
      exact ⟨l, b, xs, kvs, k, p, v, rfl, rfl, hH, nd, pk, du, h2, rz, z, M2, f.trans f2, dz, r2.mem, q2⟩
def rSetD (K : PySem.W.Frag) : TSet := fun x y v H Q => ∃ (a b : Addr) (xs : DX) (kvs : List (List (List Int) × D)) (k : List (List Int)), x = .ref a ∧ y = .ref b ∧ H a = some (.ext (DicO a xs)) ∧ (xs.map (·.1)).Nodup ∧ Paired (KvOk K H) kvs xs ∧ Dat K H (kD k) (.ref b) ∧ xs.length ≤ sizeLine ∧
  ∀ u, RelV v u → ((storedH xs k b u).map (·.1)).Nodup → Q (upd H a (.ext (DicO a (storedH xs k b u))))
theorem set_dic (hu : X.A.units + 64 < cLine) : PSet X (rSetD X.K) := by
  intro pins s σ H o i v ov iv u Q I ro ri rv hx
  obtain ⟨a, b, xs, kvs, k, e1, e2, hH, nd, pk, dk, hz, q⟩ := hx
  subst e1; subst e2
  obtain rfl : ov = Value.ref a := ro
  obtain rfl : iv = Value.ref b := ri
  have dd := dic_at I.hok hH nd pk
  refine wpAny_setItem_heap (knd := tup2Kind X.prog X.w) (hsz := hz) (by show X.A.units + 1 + 8 < cLine; omega) (kD_key I.hok dk) dd fun h' dd' hs => ?_
  obtain ⟨o, es, ep, g1, g2, g3, g4, _, g6⟩ := dd'
  refine ⟨_, I.write (x := a) (e := a) (o := .ext (DicO a (storedH xs k b u))) (t' := s.toks + (tup2Kind X.prog X.w).draws k) (by rw [hH]; trivial) (.inl rfl) (fun c z nc e => (hs.2 c nc).trans e) ⟨o, g1⟩ ⟨⟨o, es, ep, g1, g2, g3, g4⟩, ⟨o, g1⟩, ?_⟩, q u rv g6⟩
  rintro h1 h2 ⟨o, es, ep, e, q⟩ k
  exact ⟨o, es, ep, k o e, q⟩
def gSubD (to ti : TE3) : TG3 := fun d ρ M Q => to ρ M fun o M1 => ti ρ M1 fun i M2 => ∃ l kvs k, o = .ref l ∧ i = kD k ∧ M2 l = some (.dic kvs) ∧ kvs.length ≤ 1000 ∧ Q ρ (updM M2 l (.dic (putD2 kvs k d)))
theorem g_subD (hu : X.A.units + 64 < cLine) {o i : Expr} {to ti : TE3} {pos : Pos} (ho : PE3 X o to) (hi : PE3 X i ti)
    (ha : ∀ v, assign (.Subscript o i pos) X.env v = (do
      let ov ← holding [v] (eval o X.env)
      let iv ← holding [v, ov] (eval i X.env)
      standAt pos
      holding [v, ov, iv] (setItem ov iv v)
      release [v, ov, iv] []) := by intro _; rfl) : PG3 X (.Subscript o i pos) (gSubD to ti) := by
  constructor
  intro pins s σ H ρ M v d u Q I r rv dv q
  refine pg_sub ho.dn hi.dn (set_dic hu) ha pins s σ H v u _ I rv (dn_of r q fun x H1 d1 M1 f1 dx r1 q1 => dn_of r1 q1 fun y H2 d2 M2 f2 dy r2 ⟨l, kvs, k, e1, e2, hM, hz, q2⟩ => ?_)
  subst e1 e2
  obtain rfl := dat_ref.mp dx
  obtain ⟨b, rfl⟩ := dic_ref dy
  obtain ⟨xs, hH, hy, nd, pk⟩ := r2.mem.dic hM
  have dv2 := Dat.mono ((f1.trans f2).ext r.mem) _ _ dv
  have f12 := f1.trans f2
  refine ⟨l, b, xs, kvs, k, rfl, rfl, hH, nd, pk, dy, by rw [← paired_len pk, sizeLine_eq]; omega, fun u' ru nd' => ?_⟩
  have fw : Fr M2 H2 (updM M2 l (.dic (putD2 kvs k d))) (upd H2 l (.ext (DicO l (storedH xs k b u')))) := Fr.write (K := X.K) hM
  exact ⟨ρ, _, f12.trans fw, r2.go fw (r2.mem.writeD hH hy nd' (put_pair dy dv2 ru pk)), q2⟩
end
end L3
namespace HT
open PySem PyProof.Rows
open PySem.SeqAt
open PySem.AutoSeq1 (wpAny_loadPart')
open PySem.MeetsSeq PySem.MeetsSeq2 PySem.MeetsSeq3
theorem ints_at : ∀ {vs : List Value} {ns : List Int}, IntsAre vs ns → ∀ (i : Nat) (h : i < vs.length), ∃ (n : Int) (t : Tok), vs[i] = .int n t ∧ ns.drop i = n :: ns.drop (i + 1)
  | _, _, .cons n t q, 0, h => ⟨n, t, rfl, rfl⟩
  | _, _, .cons n t q, i + 1, h => by
    obtain ⟨m, u, e1, e2⟩ := ints_at q i (by simpa using h)
    exact ⟨m, u, by simpa using e1, by simpa using e2⟩
theorem gt_loopAt (l b : Addr) (items items2 : Array Value) (n n2 : Nat) (dd dd2 : Option Addr) (sl sl2 : Array (Option Value)) (hsz : items.size = items2.size) (ns ms : List Int) (hi : IntsAre items.toList ns) (hj : IntsAre items2.toList ms) (k : Nat) :
    ∀ i : Nat, items.size - i = k → Meets (Builtin.«list.__eq__.loop» ⟨[.ref l, .ref b, rawInt i, rawInt 4], []⟩)
      (fun A R s => s.heap.get? l = some { cls := .type "list", dict := dd, data := .seq items n, slots := sl } ∧ s.heap.get? b = some { cls := .type "list", dict := dd2, data := .seq items2 n2, slots := sl2 } ∧
        R (.ok (.ret (.bool (lexLt (ms.drop i) (ns.drop i))))) s) := by
  have z1 : items.size = ns.length := by rw [← hi.length]; simp
  have z2 : items2.size = ms.length := by rw [← hj.length]; simp
  induction k with
  | zero =>
    intro i hk prog w A R s h
    obtain ⟨hp, g, d, tk, os⟩ := s; obtain ⟨hl, hb, h⟩ := h
    wp_walk using wpAny_loadPart' hl, wpAny_loadPart' hb
    have hi1 : items[((i : Nat) : Int).toNat]? = none := by simp; omega
    have hi2 : items2[((i : Nat) : Int).toNat]? = none := by simp; omega
    rw [List.drop_eq_nil_of_le (by omega), List.drop_eq_nil_of_le (by omega), lexLt_nil_nil] at h
    rw [hi1, hi2]
    wp_walk using wpAny_loadPart' hl, wpAny_loadPart' hb
    show R (.ok (.ret (.bool (decide (items.size > items2.size))))) _
    rw [hsz]
    simpa using h
  | succ k ih =>
    intro i hk prog w A R s h
    obtain ⟨hp, g, d, tk, os⟩ := s; obtain ⟨hl, hb, h⟩ := h
    wp_walk using wpAny_loadPart' hl, wpAny_loadPart' hb
    have hlt : i < items.size := by omega
    have hlt2 : i < items2.size := by omega
    have hi1 : items[((i : Nat) : Int).toNat]? = some items[i] := by simp [hlt]
    have hi2 : items2[((i : Nat) : Int).toNat]? = some items2[i] := by simp [hlt2]
    have hc : ((i : Int) + 1) = ((i + 1 : Nat) : Int) := by push_cast; rfl
    obtain ⟨a, t, e1, d1⟩ := ints_at hi i (by simpa using hlt)
    obtain ⟨c, u, e2, d2⟩ := ints_at hj i (by simpa using hlt2)
    have e1 : items[i] = .int a t := by simpa using e1
    have e2 : items2[i] = .int c u := by simpa using e2
    rw [d1, d2, lexLt_cons] at h
    rw [hi1, hi2, e1, e2]
    obtain ⟨e, he, hiff⟩ := eqAt_int A.in1 ⟨hp, g, d, tk, os⟩ a t c u
    refine wpAny_bind (he prog w _ _ ?_)
    cases e with
    | true =>
      rw [if_pos (hiff.mp rfl).symm] at h
      wp_walk
      rw [hc]
      exact ⟨plainId_quiet plain_eq_loop _, codeAny_builtin entry_eq_loop (by
        rw [Around.under_plainId plain_eq_loop _]
        exact ih (i + 1) (by omega) prog w A R _ ⟨hl, hb, h⟩)⟩
    | false =>
      rw [if_neg (fun q => absurd (hiff.mpr q.symm) Bool.false_ne_true)] at h
      have hri := rcGt_int A.in1 ⟨hp, g, d, tk, os⟩ a t c u prog w
      wp_walk using wpAny_loadPart' hl, wpAny_loadPart' hb
      rw [hi1, hi2, e1, e2]
      wp_walk using hri
      simpa using h
theorem list_gt_ints (l b : Addr) (items items2 : Array Value) (n n2 : Nat) (dd dd2 : Option Addr) (sl sl2 : Array (Option Value)) (hsz : items.size = items2.size) (ns ms : List Int) (hi : IntsAre items.toList ns) (hj : IntsAre items2.toList ms) :
    Meets (Builtin.«list.__gt__» ⟨[.ref l, .ref b], []⟩)
      (fun A R s => s.heap.get? l = some { cls := .type "list", dict := dd, data := .seq items n, slots := sl } ∧ s.heap.get? b = some { cls := .type "list", dict := dd2, data := .seq items2 n2, slots := sl2 } ∧
        R (.ok (.ret (.bool (lexLt ms ns)))) s) := by
  intro prog w A R s h
  obtain ⟨hp, g, d, tk, os⟩ := s; obtain ⟨hl, hb, h⟩ := h
  have f3 := AutoSeq1.sub_list_list
  wp_walk using wpAny_loadPart' hl, wpAny_loadPart' hb
  exact ⟨plainId_quiet plain_eq_loop _, codeAny_builtin entry_eq_loop (by
    rw [Around.under_plainId plain_eq_loop _]
    exact gt_loopAt l b items items2 n n2 dd dd2 sl sl2 hsz ns ms hi hj _ 0 rfl prog w A R _ ⟨hl, hb, by simpa using h⟩)⟩
end HT
namespace L3
open PySem PySem.Spec PyProof.Rows L2
section
variable {X : Cx}
def rGtLL : R3 := fun d e M Q => ∃ (a b : Addr) (ns ms : List Int), d = .ref a ∧ e = .ref b ∧ M a = some (.lst (ns.map D.int)) ∧ M b = some (.lst (ms.map D.int)) ∧ ns.length = ms.length ∧ Q (.bl (HT.lexLt ms ns)) M
theorem o_gtLL (hu : X.A.units + 64 < cLine) : Op3 X (compareOp .Gt) rGtLL := by
  constructor
  intro pins s σ H M x y d e v u Q I rm rx ry dx dy ⟨a, b, ns, ms, e1, e2, hM, hN, hl, q⟩
  subst e1; subst e2
  obtain rfl := dat_ref.mp dx
  obtain rfl := dat_ref.mp dy
  obtain rfl : v = Value.ref a := rx
  obtain rfl : u = Value.ref b := ry
  obtain ⟨zs, h1, h2⟩ := rm.lst hM
  obtain ⟨ws, h3, h4⟩ := rm.lst hN
  obtain ⟨its, rv, pl, hz⟩ := I.list (SqL.of (K := X.K) h1)
  obtain ⟨its2, rv2, pl2, hz2⟩ := I.list (SqL.of (K := X.K) h3)
  have l1 := h2.length.trans rv.length
  have l2 := h4.length.trans rv2.length
  rw [List.length_map] at l1 l2
  rw [ints_dats h2] at rv
  rw [ints_dats h4] at rv2
  obtain ⟨⟨cls, dd, data, sl⟩, ho, hc, n, hd⟩ := id pl.isList
  obtain ⟨⟨cls2, dd2, data2, sl2⟩, ho2, hc2, n2, hd2⟩ := id pl2.isList
  simp only at hc hd hc2 hd2
  subst hc hd hc2 hd2
  exact richCompare_meets_room (op := .Gt) (E := X.xe) ⟨_, ho, rfl⟩ ⟨_, ho2, rfl⟩ PySem.F.slot_list_gt PySem.F.entry_list_gt (PySem.F.args_list_gt_2 _ _)
    (HT.list_gt_ints a b its.toArray its2.toArray n n2 dd dd2 sl sl2 (by rw [List.size_toArray, List.size_toArray]; omega) ns ms (by simpa using intsAre_of rv) (by simpa using intsAre_of rv2))
    ⟨ho, ho2, show Value.bool (HT.lexLt ms ns) ≠ Value.notImplemented ∧ EP X pins σ (Post X.K M H Q) (.bool (HT.lexLt ms ns)) s from ⟨(fun x => nomatch x), .bl _, H, I, rfl, post_self rm (dat_bl.mpr rfl) q⟩⟩ (by omega)
def rGtP : R3 := fun d e M Q => ∃ p q : Pl, d = p.d ∧ e = q.d ∧ Q (.bl (decide (bef q p))) M
theorem o_gtP (hu : X.A.units + 64 < cLine) : Op3 X (compareOp .Gt) rGtP := by
  constructor
  intro pins s σ H M x y d e v u Q I rm rx ry dx dy ⟨p, q, e1, e2, k⟩
  subst e1 e2
  obtain ⟨l1, i1, rfl, t1, n1⟩ := (at2_of I.hok dx rx).tup
  obtain ⟨l2, i2, rfl, t2, n2⟩ := (at2_of I.hok dy ry).tup
  refine HT.gt_tupInts t1 t2 n1 n2 (by omega) ⟨.bl (decide (bef q p)), H, I, ?_, post_self rm (dat_bl.mpr rfl) k⟩
  rw [lex_bef]
  rfl
end
end L3
namespace L3
open PySem
def Cvx (p q x y : Pl) : Prop := 0 < tw p q x ∧ tw p q y < 0 ∧ tw x y p < 0 ∧ 0 < tw x y q
theorem Cvx.back {p q x y : Pl} (h : Cvx p q x y) : Cvx q p y x := by
  obtain ⟨h1, h2, h3, h4⟩ := h
  refine ⟨?_, ?_, ?_, ?_⟩
  · rw [tw_swap p q y]; omega
  · rw [tw_swap p q x]; omega
  · rw [tw_swap x y q]; omega
  · rw [tw_swap x y p]; omega
theorem Cvx.turn {p q x y : Pl} (h : Cvx p q x y) : Cvx x y q p := by
  obtain ⟨h1, h2, h3, h4⟩ := h
  refine ⟨h4, h3, ?_, ?_⟩
  · rw [tw_swap p q x]; omega
  · rw [tw_swap p q y]; omega
theorem Cvx.ne {p q x y : Pl} (h : Cvx p q x y) : p ≠ q ∧ p ≠ x ∧ p ≠ y ∧ q ≠ x ∧ q ≠ y ∧ x ≠ y := by
  obtain ⟨h1, h2, h3, h4⟩ := h
  obtain ⟨a1, a2, a3⟩ := tw_ne (show tw p q x ≠ 0 by omega)
  obtain ⟨b1, b2, b3⟩ := tw_ne (show tw p q y ≠ 0 by omega)
  obtain ⟨c1, c2, c3⟩ := tw_ne (show tw x y p ≠ 0 by omega)
  exact ⟨a1, a2, b2, a3, b3, c1⟩
theorem four_tw (p q x y : Pl) : tw p q x - tw p q y = tw x y q - tw x y p := by unfold tw; grind
def Quad2 (a b c d : Pl) : Prop := Cvx a b c d ∨ Cvx a b d c
theorem Quad2.of {p q r s : Pl} (h1 : tw p q r * tw p q s < 0) (h2 : tw r s p * tw r s q < 0) : Quad2 p q r s := by
  have e := four_tw p q r s
  have sg : ∀ u v : Int, u * v < 0 → (0 < u ∧ v < 0) ∨ (u < 0 ∧ 0 < v) := fun u v h => by
    rcases Int.lt_trichotomy u 0 with a | a | a
    · rcases Int.lt_trichotomy v 0 with b | b | b
      · exact absurd (Int.mul_pos_of_neg_of_neg a b) (by omega)
      · rw [b, Int.mul_zero] at h; omega
      · exact .inr ⟨a, b⟩
    · rw [a, Int.zero_mul] at h; omega
    · rcases Int.lt_trichotomy v 0 with b | b | b
      · exact .inl ⟨a, b⟩
      · rw [b, Int.mul_zero] at h; omega
      · exact absurd (Int.mul_pos a b) (by omega)
  rcases sg _ _ h1 with ⟨a1, a2⟩ | ⟨a1, a2⟩
  · rcases sg _ _ h2 with ⟨b1, b2⟩ | ⟨b1, b2⟩
    · omega
    · exact .inl ⟨a1, a2, b1, b2⟩
  · rcases sg _ _ h2 with ⟨b1, b2⟩ | ⟨b1, b2⟩
    · refine .inr ⟨a2, a1, ?_, ?_⟩
      · rw [tw_swap r s p]; omega
      · rw [tw_swap r s q]; omega
    · omega
theorem Quad2.par {a : Pl} {w1 w2 h1 h2 : Int} (p1 : 1 ≤ w1) (p2 : 0 ≤ w2) (q1 : h1 ≤ 0) (q2 : 1 ≤ h2) :
    Quad2 a ⟨a.x + w1 + h1, a.y + w2 + h2⟩ ⟨a.x + w1, a.y + w2⟩ ⟨a.x + h1, a.y + h2⟩ := by
  have pos : 0 < w1 * h2 - w2 * h1 := by
    have e1 : 0 < w1 * h2 := Int.mul_pos (by omega) (by omega)
    have e2 : w2 * h1 ≤ 0 := Int.mul_nonpos_of_nonneg_of_nonpos p2 q1
    omega
  refine .inr ⟨?_, ?_, ?_, ?_⟩
  · have e : tw a ⟨a.x + w1 + h1, a.y + w2 + h2⟩ ⟨a.x + h1, a.y + h2⟩ = w1 * h2 - w2 * h1 := by unfold tw; grind
    rw [e]; exact pos
  · have e : tw a ⟨a.x + w1 + h1, a.y + w2 + h2⟩ ⟨a.x + w1, a.y + w2⟩ = -(w1 * h2 - w2 * h1) := by unfold tw; grind
    rw [e]; omega
  · have e : tw ⟨a.x + h1, a.y + h2⟩ ⟨a.x + w1, a.y + w2⟩ a = -(w1 * h2 - w2 * h1) := by unfold tw; grind
    rw [e]; omega
  · have e : tw ⟨a.x + h1, a.y + h2⟩ ⟨a.x + w1, a.y + w2⟩ ⟨a.x + w1 + h1, a.y + w2 + h2⟩ = w1 * h2 - w2 * h1 := by unfold tw; grind
    rw [e]; exact pos
def RotOf (t : List Pl) (a b c : Pl) : Prop := t = [a, b, c] ∨ t = [b, c, a] ∨ t = [c, a, b]
theorem RotOf.rot {t : List Pl} {a b c : Pl} (h : RotOf t a b c) : RotOf t b c a := by
  rcases h with h | h | h
  · exact .inr (.inr h)
  · exact .inl h
  · exact .inr (.inl h)
theorem rotOf_tri {t : List Pl} {a b c : Pl} (ht : IsTri t) (h : t.Perm [a, b, c]) (p : 0 < tw a b c) : RotOf t a b c := by
  obtain ⟨u, v, w, rfl, _, _, q⟩ := ht
  rcases perm3 h with ⟨rfl, rfl, rfl⟩ | ⟨rfl, rfl, rfl⟩ | ⟨rfl, rfl, rfl⟩ | ⟨rfl, rfl, rfl⟩ | ⟨rfl, rfl, rfl⟩ | ⟨rfl, rfl, rfl⟩
  · exact .inl rfl
  · rw [tw_swap2 u v w] at p; omega
  · rw [tw_swap u v w] at p; omega
  · first | exact .inr (.inl rfl) | exact .inr (.inr rfl)
  · first | exact .inr (.inl rfl) | exact .inr (.inr rfl)
  · rw [tw_swap v w u, tw_rot u v w] at p; omega
theorem RotOf.perm {t : List Pl} {a b c : Pl} (h : RotOf t a b c) : t.Perm [a, b, c] := by
  rcases h with rfl | rfl | rfl
  · exact .refl _
  · exact List.perm_append_comm (l₁ := [b, c]) (l₂ := [a])
  · exact List.perm_append_comm (l₁ := [c]) (l₂ := [a, b])
def Cutt (p q x y : Pl) (ts : List (List Pl)) : Prop := ∃ t1 t2, IsTri t1 ∧ IsTri t2 ∧ RotOf t1 p q x ∧ RotOf t2 p y q ∧ (ts = [t1, t2] ∨ ts = [t2, t1])
theorem Cutt.back {p q x y : Pl} {ts : List (List Pl)} (h : Cutt p q x y ts) : Cutt q p y x ts := by
  obtain ⟨t1, t2, i1, i2, r1, r2, e⟩ := h
  exact ⟨t2, t1, i2, i1, r2.rot.rot, r1.rot, e.symm⟩
theorem Cutt.uniq {p q x y : Pl} {ts us : List (List Pl)} (h : Cutt p q x y ts) (k : Cutt p q x y us) : ts.Perm us := by
  obtain ⟨t1, t2, i1, i2, r1, r2, e⟩ := h
  obtain ⟨u1, u2, j1, j2, s1, s2, f⟩ := k
  have e1 : t1 = u1 := i1.uniq j1 (r1.perm.trans s1.perm.symm)
  have e2 : t2 = u2 := i2.uniq j2 (r2.perm.trans s2.perm.symm)
  subst e1; subst e2
  rcases e with rfl | rfl <;> rcases f with rfl | rfl
  · exact .refl _
  · exact .swap _ _ _
  · exact .swap _ _ _
  · exact .refl _
theorem cut_of {p q x y a b c a' b' d : Pl} {ts : List (List Pl)} (hv : Cvx p q x y) (h1 : [a, b, c].Perm [p, q, x]) (h2 : [a', b', d].Perm [p, y, q]) (h : ts.Perm [trg a b c, trg a' b' d]) : Cutt p q x y ts := by
  obtain ⟨v1, v2, _, _⟩ := hv
  have n1 : tw a b c ≠ 0 := (tw_perm h1).mpr (by omega)
  have v2' : 0 < tw p y q := by rw [tw_swap2 p q y]; omega
  have n2 : tw a' b' d ≠ 0 := (tw_perm h2).mpr (by omega)
  obtain ⟨i1, k1⟩ := trg_is n1
  obtain ⟨i2, k2⟩ := trg_is n2
  refine ⟨_, _, i1, i2, rotOf_tri i1 (k1.trans h1) v1, rotOf_tri i2 (k2.trans h2) v2', ?_⟩
  have l := h.length_eq
  match ts, l, h with
  | [u, v], _, h =>
    rcases perm2 h with ⟨rfl, rfl⟩ | ⟨rfl, rfl⟩
    · exact .inl rfl
    · exact .inr rfl
theorem rot_area {t : List Pl} {a b c : Pl} (h : RotOf t a b c) : twT t = tw a b c := by
  rcases h with rfl | rfl | rfl
  · rfl
  · exact tw_rot a b c
  · exact (tw_rot c a b).symm
theorem rot_hgt {t : List Pl} {a b c : Pl} (h : RotOf t a b c) : hgtT t = sqP a + sqP b + sqP c := by
  rcases h with rfl | rfl | rfl <;> simp only [hgtT, List.map_cons, List.map_nil, List.sum_cons, List.sum_nil] <;> omega
theorem rot_mem {t : List Pl} {a b c : Pl} (h : RotOf t a b c) (r : Pl) : r ∈ t ↔ r = a ∨ r = b ∨ r = c := by
  rw [h.perm.mem_iff]
  simp
theorem Cutt.hgs {p q x y : Pl} {ts : List (List Pl)} (h : Cutt p q x y ts) : highs ts = tw p q x * (sqP p + sqP q + sqP x) + tw p y q * (sqP p + sqP y + sqP q) := by
  obtain ⟨t1, t2, _, _, r1, r2, e⟩ := h
  rcases e with rfl | rfl <;> unfold highs <;> simp only [List.map_cons, List.map_nil, List.sum_cons, List.sum_nil, areaZ_one, rot_area r1, rot_area r2, rot_hgt r1, rot_hgt r2] <;> omega
def arr (ts : List (List Pl)) (r : Pl) : Int := areaZ (ts.filter fun t => decide (r ∈ t))
theorem arr_two (t1 t2 : List Pl) (r : Pl) : arr [t1, t2] r = (if r ∈ t1 then twT t1 else 0) + (if r ∈ t2 then twT t2 else 0) := by
  unfold arr areaZ
  by_cases c1 : r ∈ t1 <;> by_cases c2 : r ∈ t2 <;> simp [List.filter_cons, c1, c2]
theorem Cutt.ars {p q x y : Pl} {ts : List (List Pl)} (h : Cutt p q x y ts) (r : Pl) : arr ts r = (if r = p ∨ r = q ∨ r = x then tw p q x else 0) + (if r = p ∨ r = y ∨ r = q then tw p y q else 0) := by
  obtain ⟨t1, t2, _, _, r1, r2, e⟩ := h
  rcases e with rfl | rfl
  · rw [arr_two, rot_area r1, rot_area r2]
    simp only [rot_mem r1, rot_mem r2]
  · rw [arr_two, rot_area r1, rot_area r2]
    simp only [rot_mem r1, rot_mem r2]
    omega
theorem high_dep (p q x y : Pl) : (tw p q x * (sqP p + sqP q + sqP x) + tw p y q * (sqP p + sqP y + sqP q)) - (tw x y q * (sqP x + sqP y + sqP q) + tw x p y * (sqP x + sqP p + sqP y)) = dep p q x y := by
  unfold dep apt tw sqP
  grind
theorem cut_more {p q x y m : Pl} {ts us : List (List Pl)} (hv : Cvx p q x y) (h : Cutt p q x y ts) (k : Cutt x y q p us) (hm : m = p ∨ m = q ∨ m = x ∨ m = y) (least : ∀ r, r = p ∨ r = q ∨ r = x ∨ r = y → r ≠ m → bef m r) :
    (Spo p q x y ∧ (highs us < highs ts ∨ (highs us = highs ts ∧ arr ts m < arr us m))) ∨ (¬ Spo p q x y ∧ (highs ts < highs us ∨ (highs ts = highs us ∧ arr us m < arr ts m))) := by
  have hd := high_dep p q x y
  rw [h.ars, k.ars, h.hgs, k.hgs]
  obtain ⟨n1, n2, n3, n4, n5, n6⟩ := hv.ne
  obtain ⟨v1, v2, v3, v4⟩ := hv
  have f := four_tw p q x y
  have s1 : tw p y q = -tw p q y := tw_swap2 p q y
  have s2 : tw x p y = -tw x y p := tw_swap2 x y p
  rcases Int.lt_trichotomy (dep p q x y) 0 with c | c | c
  · refine .inr ⟨fun z => ?_, .inl (by omega)⟩
    have := (Spo_dep v1 z).1
    omega
  · have e : tw p q x * (sqP p + sqP q + sqP x) + tw p y q * (sqP p + sqP y + sqP q) = tw x y q * (sqP x + sqP y + sqP q) + tw x p y * (sqP x + sqP p + sqP y) := by omega
    have rz : rg p q x y = 0 := by rw [rg_left v1, c]; rfl
    have sp : Spo p q x y ↔ ((bef y p ∧ bef y q ∧ bef y x) ∨ (bef p q ∧ bef p x ∧ bef p y ∧ (tw q x y).sign ≠ (tw q x p).sign) ∨ (bef q p ∧ bef q x ∧ bef q y ∧ (tw x p y).sign ≠ (tw x p q).sign) ∨ (bef x p ∧ bef x q ∧ bef x y ∧ (tw p q y).sign ≠ (tw p q x).sign)) := by
      unfold Spo
      rw [rz]
      constructor
      · rintro (z | ⟨_, _, _, _, z⟩)
        · cases z
        · exact z
      · intro z
        exact .inr ⟨rfl, Ne.symm n3, Ne.symm n5, Ne.symm n6, z⟩
    have g1 : (tw q x y).sign = (tw q x p).sign := by
      rw [show tw q x y = tw x y q from (tw_rot q x y).symm, show tw q x p = tw p q x from tw_rot p q x, Int.sign_eq_one_of_pos v1, Int.sign_eq_one_of_pos v4]
    have g2 : (tw x p y).sign = (tw x p q).sign := by
      rw [show tw x p q = tw p q x from (tw_rot x p q).symm, s2, Int.sign_eq_one_of_pos v1, Int.sign_eq_one_of_pos (by omega)]
    have g3 : (tw p q y).sign ≠ (tw p q x).sign := by
      rw [Int.sign_eq_one_of_pos v1, Int.sign_eq_neg_one_of_neg v2]
      decide
    rcases hm with rfl | rfl | rfl | rfl
    · have b1 := least q (.inr (.inl rfl)) (Ne.symm n1)
      have b2 := least x (.inr (.inr (.inl rfl))) (Ne.symm n2)
      have b3 := least y (.inr (.inr (.inr rfl))) (Ne.symm n3)
      refine .inr ⟨fun z => ?_, .inr ⟨e, ?_⟩⟩
      · rcases sp.mp z with z | z | z | z
        · exact bef_asymm b3 z.1
        · exact z.2.2.2 g1
        · exact bef_asymm b1 z.1
        · exact bef_asymm b2 z.1
      · simp [n1, n2, n3]
        omega
    · have b1 := least p (.inl rfl) n1
      have b2 := least x (.inr (.inr (.inl rfl))) (Ne.symm n4)
      have b3 := least y (.inr (.inr (.inr rfl))) (Ne.symm n5)
      refine .inr ⟨fun z => ?_, .inr ⟨e, ?_⟩⟩
      · rcases sp.mp z with z | z | z | z
        · exact bef_asymm b3 z.2.1
        · exact bef_asymm b1 z.1
        · exact z.2.2.2 g2
        · exact bef_asymm b2 z.2.1
      · simp [Ne.symm n1, n4, n5]
        omega
    · have b1 := least p (.inl rfl) n2
      have b2 := least q (.inr (.inl rfl)) n4
      have b3 := least y (.inr (.inr (.inr rfl))) (Ne.symm n6)
      refine .inl ⟨sp.mpr (.inr (.inr (.inr ⟨b1, b2, b3, g3⟩))), .inr ⟨e.symm, ?_⟩⟩
      simp [Ne.symm n2, Ne.symm n4, n6]
      omega
    · have b1 := least p (.inl rfl) n3
      have b2 := least q (.inr (.inl rfl)) n5
      have b3 := least x (.inr (.inr (.inl rfl))) n6
      refine .inl ⟨sp.mpr (.inl ⟨b1, b2, b3⟩), .inr ⟨e.symm, ?_⟩⟩
      simp [Ne.symm n3, Ne.symm n5, Ne.symm n6]
      omega
  · exact .inl ⟨Spo_of_pos v1 c, .inl (by omega)⟩
end L3
namespace L3
open PySem PySem.Spec PyProof.Rows L2
def Tr (t : List Pl) : Prop := ∃ a b c : Pl, t = [a, b, c] ∧ a.Ok 140 ∧ b.Ok 140 ∧ c.Ok 140
def dir1 : List Pl → List (List Pl)
  | [a, b, c] => [[a, b], [b, c], [c, a]]
  | _ => []
def dirs (ts : List (List Pl)) : List (List Pl) := ts.flatMap dir1
theorem dirs_take {ts : List (List Pl)} {i : Nat} {t : List Pl} (h : ts[i]? = some t) : dirs (ts.take (i + 1)) = dirs (ts.take i) ++ dir1 t := by
  unfold dirs
  rw [List.take_succ, h, List.flatMap_append]
  simp
theorem dir1_len (t : List Pl) : (dir1 t).length ≤ 3 := by
  unfold dir1
  split <;> simp
theorem dirs_len : ∀ (ts : List (List Pl)), (dirs ts).length ≤ 3 * ts.length
  | [] => by simp [dirs]
  | t :: ts => by
    have h1 := dirs_len ts
    have h2 := dir1_len t
    show (dir1 t ++ dirs ts).length ≤ _
    rw [List.length_append, List.length_cons]
    omega
theorem dirs_two (ts : List (List Pl)) (w : List Pl) (h : w ∈ dirs ts) : ∃ a b, w = [a, b] := by
  obtain ⟨t, _, hm⟩ := List.mem_flatMap.mp h
  unfold dir1 at hm
  split at hm
  · simp only [List.mem_cons, List.not_mem_nil, or_false] at hm
    rcases hm with rfl | rfl | rfl <;> exact ⟨_, _, rfl⟩
  · cases hm
theorem Le.put {M M' : Mp} {p : Addr} {o : MO} (h : Le M M') : Le (updM M p o) (updM M' p o) := fun c u e => by
  by_cases hc : c = p
  · subst hc
    rw [updM_same] at e ⊢
    exact e
  · rw [updM_ne hc] at e ⊢
    exact h c u e
theorem nodup_le {α : Type} [DecidableEq α] {l m : List α} (nd : l.Nodup) (sub : ∀ x ∈ l, x ∈ m) : l.length ≤ m.length := PySem.SetTable.len_sub nd sub
theorem okEq_tD (t : List Pl) : okEq (tD t) (tD t) = true := by
  have h := plain_pls t
  have h2 : plain 10 (tD t) = true := by
    unfold tD
    simp only [plain]
    exact h
  show (plain 10 (tD t) && plain 10 (tD t)) = true
  rw [h2]
  rfl
theorem kD_keyT (ps : List Pl) : kD (keyT ps) = tD ps := by
  unfold kD keyT tD
  rw [List.map_map]
  rfl
theorem getD2_put (kvs : List (List (List Int) × D)) (k : List (List Int)) (d : D) (k' : List (List Int)) : getD2 (putD2 kvs k d) k' = if k = k' then some d else getD2 kvs k' := by
  have app : ∀ kvs : List (List (List Int) × D), getD2 kvs k = none → getD2 (kvs ++ [(k, d)]) k' = if k = k' then some d else getD2 kvs k' := by
    intro kvs
    induction kvs with
    | nil =>
      intro _
      by_cases c : k = k' <;> simp [getD2, c]
    | cons p kvs ih =>
      intro h
      unfold getD2 at h ih ⊢
      rw [List.find?_cons] at h
      rw [List.cons_append, List.find?_cons, List.find?_cons]
      by_cases c : p.1 = k
      · rw [decide_eq_true c] at h; cases h
      · rw [decide_eq_false c] at h
        by_cases c2 : p.1 = k'
        · rw [decide_eq_true c2, if_neg (fun z => c (c2.trans z.symm))]
        · rw [decide_eq_false c2]
          exact ih h
  have rep : ∀ kvs : List (List (List Int) × D), (getD2 kvs k).isSome = true → getD2 (kvs.map fun p => if p.1 = k then (p.1, d) else p) k' = if k = k' then some d else getD2 kvs k' := by
    intro kvs
    induction kvs with
    | nil => intro h; cases h
    | cons p kvs ih =>
      intro h
      by_cases c : p.1 = k
      · subst c
        by_cases c2 : p.1 = k'
        · unfold getD2
          rw [List.map_cons, if_pos rfl, List.find?_cons, decide_eq_true c2, if_pos c2]
          rfl
        · rw [if_neg c2]
          unfold getD2
          rw [List.map_cons, if_pos rfl, List.find?_cons, decide_eq_false c2, List.find?_cons, decide_eq_false c2]
          dsimp only
          clear ih h
          induction kvs with
          | nil => rfl
          | cons q kvs ih =>
            rw [List.map_cons, List.find?_cons, List.find?_cons]
            by_cases c3 : q.1 = p.1
            · rw [if_pos c3]
              dsimp only
              rw [decide_eq_false (show ¬ q.1 = k' from fun z => c2 (c3.symm.trans z))]
              exact ih
            · rw [if_neg c3]
              cases decide (q.1 = k') with
              | true => rfl
              | false => exact ih
      · have h' : (getD2 kvs k).isSome = true := by
          unfold getD2 at h ⊢
          rw [List.find?_cons, decide_eq_false c] at h
          exact h
        have ih := ih h'
        unfold getD2 at ih ⊢
        rw [List.map_cons, if_neg c, List.find?_cons, List.find?_cons]
        by_cases c2 : p.1 = k'
        · rw [decide_eq_true c2, if_neg (fun z => c (c2.trans z.symm))]
        · rw [decide_eq_false c2]
          exact ih
  unfold putD2
  by_cases c : (getD2 kvs k).isSome = true
  · rw [if_pos c]
    exact rep kvs c
  · rw [if_neg c]
    exact app kvs (by simpa using c)
theorem putD2_len (kvs : List (List (List Int) × D)) (k : List (List Int)) (d : D) : (putD2 kvs k d).length ≤ kvs.length + 1 := by
  unfold putD2
  split
  · rw [List.length_map]; omega
  · rw [List.length_append]; simp
def rnd1 : List Pl → List (List Pl)
  | [a, b, c] => [[a, b, c], [b, c, a], [c, a, b]]
  | _ => []
def rnds (ts : List (List Pl)) : List (List Pl) := ts.flatMap rnd1
theorem rnds_take {ts : List (List Pl)} {i : Nat} {t : List Pl} (h : ts[i]? = some t) : rnds (ts.take (i + 1)) = rnds (ts.take i) ++ rnd1 t := by
  unfold rnds
  rw [List.take_succ, h, List.flatMap_append]
  simp
theorem rnds_len : ∀ (ts : List (List Pl)), (rnds ts).length ≤ 3 * ts.length
  | [] => by simp [rnds]
  | t :: ts => by
    have h1 := rnds_len ts
    have h2 : (rnd1 t).length ≤ 3 := by unfold rnd1; split <;> simp
    show (rnd1 t ++ rnds ts).length ≤ _
    rw [List.length_append, List.length_cons]
    omega
def putO (kvs : List (List (List Int) × D)) (o : List Pl) : List (List (List Int) × D) :=
  match o with
  | [a, b, c] => putD2 kvs (keyT [a, b]) c.d
  | _ => kvs
def corL (os : List (List Pl)) : List (List (List Int) × D) := os.foldl putO []
theorem corL_snoc (os : List (List Pl)) (a b c : Pl) : corL (os ++ [[a, b, c]]) = putD2 (corL os) (keyT [a, b]) c.d := by
  unfold corL
  rw [List.foldl_append]
  rfl
theorem corL_len (os : List (List Pl)) : (corL os).length ≤ os.length := by
  have go : ∀ (os : List (List Pl)) (kvs : List (List (List Int) × D)), (os.foldl putO kvs).length ≤ kvs.length + os.length := by
    intro os
    induction os with
    | nil => intro kvs; exact Nat.le_refl _
    | cons o os ih =>
      intro kvs
      rw [List.foldl_cons, List.length_cons]
      have h1 := ih (putO kvs o)
      have h2 : (putO kvs o).length ≤ kvs.length + 1 := by
        unfold putO
        split
        · exact putD2_len _ _ _
        · omega
      omega
  have := go os []
  unfold corL
  simpa using this
theorem cor_in (os : List (List Pl)) (h3 : ∀ o ∈ os, ∃ a b c, o = [a, b, c]) (u v : Pl) : (getD2 (corL os) (keyT [u, v]) = none ∧ ∀ r, [u, v, r] ∉ os) ∨ ∃ r, getD2 (corL os) (keyT [u, v]) = some (Pl.d r) ∧ [u, v, r] ∈ os := by
  have go : ∀ (os : List (List Pl)) (kvs : List (List (List Int) × D)) (seen : List (List Pl)), (∀ o ∈ os, ∃ a b c, o = [a, b, c]) →
      ((getD2 kvs (keyT [u, v]) = none ∧ ∀ r, [u, v, r] ∉ seen) ∨ ∃ r, getD2 kvs (keyT [u, v]) = some (Pl.d r) ∧ [u, v, r] ∈ seen) →
      ((getD2 (os.foldl putO kvs) (keyT [u, v]) = none ∧ ∀ r, [u, v, r] ∉ seen ++ os) ∨ ∃ r, getD2 (os.foldl putO kvs) (keyT [u, v]) = some (Pl.d r) ∧ [u, v, r] ∈ seen ++ os) := by
    intro os
    induction os with
    | nil =>
      intro kvs seen _ h
      rw [List.append_nil]
      exact h
    | cons o os ih =>
      intro kvs seen h3 h
      obtain ⟨a, b, c, rfl⟩ := h3 o List.mem_cons_self
      rw [List.foldl_cons, show seen ++ [a, b, c] :: os = (seen ++ [[a, b, c]]) ++ os by simp]
      refine ih _ _ (fun o ho => h3 o (List.mem_cons_of_mem _ ho)) ?_
      show (getD2 (putD2 kvs (keyT [a, b]) c.d) (keyT [u, v]) = none ∧ _) ∨ ∃ r, getD2 (putD2 kvs (keyT [a, b]) c.d) (keyT [u, v]) = some (Pl.d r) ∧ _
      rw [getD2_put]
      by_cases e : keyT [a, b] = keyT [u, v]
      · rw [if_pos e]
        have e2 := keyT_inj e
        injection e2 with e3 e2
        injection e2 with e4 _
        subst e3; subst e4
        exact .inr ⟨c, rfl, by simp⟩
      · rw [if_neg e]
        have ne : ∀ r, ([u, v, r] : List Pl) ≠ [a, b, c] := fun r z => by
          injection z with z1 z
          injection z with z2 z
          exact e (by rw [z1, z2])
        rcases h with ⟨g, n⟩ | ⟨r, g, m⟩
        · refine .inl ⟨g, fun r z => ?_⟩
          rcases List.mem_append.mp z with z | z
          · exact n r z
          · exact ne r (List.mem_singleton.mp z)
        · exact .inr ⟨r, g, List.mem_append_left _ m⟩
  have := go os [] [] h3 (.inl ⟨rfl, fun r z => by cases z⟩)
  rw [List.nil_append] at this
  exact this
theorem rnd1_three (t : List Pl) : ∀ o ∈ rnd1 t, ∃ a b c, o = [a, b, c] := by
  intro o ho
  unfold rnd1 at ho
  split at ho
  · simp only [List.mem_cons, List.not_mem_nil, or_false] at ho
    rcases ho with rfl | rfl | rfl <;> exact ⟨_, _, _, rfl⟩
  · cases ho
theorem rnds_three (ts : List (List Pl)) : ∀ o ∈ rnds ts, ∃ a b c, o = [a, b, c] := fun o ho => by
  obtain ⟨t, _, h⟩ := List.mem_flatMap.mp ho
  exact rnd1_three t o h
theorem rot_rnd {t : List Pl} {a b c : Pl} (h : RotOf t a b c) (o : List Pl) : o ∈ rnd1 t ↔ o = [a, b, c] ∨ o = [b, c, a] ∨ o = [c, a, b] := by
  rcases h with rfl | rfl | rfl
  · simp [rnd1]
  · simp only [rnd1, List.mem_cons, List.not_mem_nil, or_false]
    constructor <;> (rintro (z | z | z) <;> simp [z])
  · simp only [rnd1, List.mem_cons, List.not_mem_nil, or_false]
    constructor <;> (rintro (z | z | z) <;> simp [z])
theorem Cutt.rnd {p q x y : Pl} {ts : List (List Pl)} (h : Cutt p q x y ts) (o : List Pl) : o ∈ rnds ts ↔ (o = [p, q, x] ∨ o = [q, x, p] ∨ o = [x, p, q]) ∨ (o = [p, y, q] ∨ o = [y, q, p] ∨ o = [q, p, y]) := by
  obtain ⟨t1, t2, _, _, r1, r2, e⟩ := h
  rw [← rot_rnd r1 o, ← rot_rnd r2 o]
  rcases e with rfl | rfl
  · simp [rnds]
  · simp [rnds]
    exact Or.comm
theorem dir_rnd (t : List Pl) (u v : Pl) : [u, v] ∈ dir1 t ↔ ∃ r, [u, v, r] ∈ rnd1 t := by
  unfold dir1 rnd1
  split
  · rename_i a b c
    simp only [List.mem_cons, List.not_mem_nil, or_false]
    constructor
    · rintro (z | z | z)
      · injection z with z1 z; injection z with z2 z; exact ⟨c, by simp [z1, z2]⟩
      · injection z with z1 z; injection z with z2 z; exact ⟨a, by simp [z1, z2]⟩
      · injection z with z1 z; injection z with z2 z; exact ⟨b, by simp [z1, z2]⟩
    · rintro ⟨r, z | z | z⟩
      · injection z with z1 z; injection z with z2 z; simp [z1, z2]
      · injection z with z1 z; injection z with z2 z; simp [z1, z2]
      · injection z with z1 z; injection z with z2 z; simp [z1, z2]
  · simp
theorem dirs_rnds (ts : List (List Pl)) (u v : Pl) : [u, v] ∈ dirs ts ↔ ∃ r, [u, v, r] ∈ rnds ts := by
  unfold dirs rnds
  simp only [List.mem_flatMap]
  constructor
  · rintro ⟨t, m, h⟩
    obtain ⟨r, h⟩ := (dir_rnd t u v).mp h
    exact ⟨r, t, m, h⟩
  · rintro ⟨r, t, m, h⟩
    exact ⟨t, m, (dir_rnd t u v).mpr ⟨r, h⟩⟩
theorem Cutt.way {p q x y u v r : Pl} {ts : List (List Pl)} (hv : Cvx p q x y) (h : Cutt p q x y ts) (m : [u, v, r] ∈ rnds ts) :
    (u = p ∧ v = q ∧ r = x) ∨ (u = q ∧ v = p ∧ r = y) ∨ ((∀ z, [v, u, z] ∉ rnds ts) ∧ ¬ (u = p ∧ v = q) ∧ ¬ (u = q ∧ v = p)) := by
  obtain ⟨n1, n2, n3, n4, n5, n6⟩ := hv.ne
  have no : ∀ {u v : Pl}, ((u = q ∧ v = x) ∨ (u = x ∧ v = p) ∨ (u = p ∧ v = y) ∨ (u = y ∧ v = q)) → (∀ z, [v, u, z] ∉ rnds ts) ∧ ¬ (u = p ∧ v = q) ∧ ¬ (u = q ∧ v = p) := by
    intro u v c
    refine ⟨fun z w => ?_, ?_, ?_⟩
    · rw [h.rnd] at w
      simp only [List.cons.injEq, and_true] at w
      rcases c with ⟨rfl, rfl⟩ | ⟨rfl, rfl⟩ | ⟨rfl, rfl⟩ | ⟨rfl, rfl⟩ <;> grind
    · rcases c with ⟨rfl, rfl⟩ | ⟨rfl, rfl⟩ | ⟨rfl, rfl⟩ | ⟨rfl, rfl⟩ <;> grind
    · rcases c with ⟨rfl, rfl⟩ | ⟨rfl, rfl⟩ | ⟨rfl, rfl⟩ | ⟨rfl, rfl⟩ <;> grind
  rw [h.rnd] at m
  simp only [List.cons.injEq, and_true] at m
  rcases m with (m | m | m) | (m | m | m)
  · exact .inl m
  · exact .inr (.inr (no (.inl ⟨m.1, m.2.1⟩)))
  · exact .inr (.inr (no (.inr (.inl ⟨m.1, m.2.1⟩))))
  · exact .inr (.inr (no (.inr (.inr (.inl ⟨m.1, m.2.1⟩)))))
  · exact .inr (.inr (no (.inr (.inr (.inr ⟨m.1, m.2.1⟩)))))
  · exact .inr (.inl m)
theorem Cutt.there {p q x y : Pl} {ts : List (List Pl)} (hv : Cvx p q x y) (h : Cutt p q x y ts) : getD2 (corL (rnds ts)) (keyT [p, q]) = some x.d ∧ getD2 (corL (rnds ts)) (keyT [q, p]) = some y.d := by
  obtain ⟨n1, n2, n3, n4, n5, n6⟩ := hv.ne
  constructor
  · rcases cor_in (rnds ts) (rnds_three ts) p q with ⟨_, n⟩ | ⟨r, g, m⟩
    · exact absurd ((h.rnd _).mpr (.inl (.inl rfl))) (n x)
    · rcases h.way hv m with ⟨_, _, e⟩ | ⟨e, _⟩ | ⟨_, e, _⟩
      · rw [g, e]
      · exact absurd e n1
      · exact absurd ⟨rfl, rfl⟩ e
  · rcases cor_in (rnds ts) (rnds_three ts) q p with ⟨_, n⟩ | ⟨r, g, m⟩
    · exact absurd ((h.rnd _).mpr (.inr (.inr (.inr rfl)))) (n y)
    · rcases h.way hv m with ⟨e, _⟩ | ⟨_, _, e⟩ | ⟨_, _, e⟩
      · exact absurd e (Ne.symm n1)
      · rw [g, e]
      · exact absurd ⟨rfl, rfl⟩ e
theorem Cutt.len {p q x y : Pl} {ts : List (List Pl)} (h : Cutt p q x y ts) : ts.length = 2 := by
  obtain ⟨_, _, _, _, _, _, e⟩ := h
  rcases e with rfl | rfl <;> rfl
theorem Cutt.len3 {p q x y : Pl} {ts : List (List Pl)} (h : Cutt p q x y ts) : ∀ t ∈ ts, t.length = 3 := by
  obtain ⟨t1, t2, _, _, r1, r2, e⟩ := h
  have h1 : t1.length = 3 := r1.perm.length_eq
  have h2 : t2.length = 3 := r2.perm.length_eq
  intro t ht
  rcases e with rfl | rfl <;> (simp only [List.mem_cons, List.not_mem_nil, or_false] at ht; rcases ht with rfl | rfl <;> assumption)
theorem rot_tr {t : List Pl} {a b c : Pl} (h : RotOf t a b c) (oa : a.Ok 140) (ob : b.Ok 140) (oc : c.Ok 140) : Tr t := by
  rcases h with rfl | rfl | rfl
  · exact ⟨_, _, _, rfl, oa, ob, oc⟩
  · exact ⟨_, _, _, rfl, ob, oc, oa⟩
  · exact ⟨_, _, _, rfl, oc, oa, ob⟩
theorem Cutt.tr {p q x y : Pl} {ts : List (List Pl)} (h : Cutt p q x y ts) (op : p.Ok 140) (oq : q.Ok 140) (ox : x.Ok 140) (oy : y.Ok 140) : ∀ t ∈ ts, Tr t := by
  obtain ⟨t1, t2, _, _, r1, r2, e⟩ := h
  have h1 := rot_tr r1 op oq ox
  have h2 := rot_tr r2 op oy oq
  intro t ht
  rcases e with rfl | rfl <;> (simp only [List.mem_cons, List.not_mem_nil, or_false] at ht; rcases ht with rfl | rfl <;> assumption)
theorem Cutt.both {p q x y : Pl} {ts : List (List Pl)} (h : Cutt p q x y ts) {t : List Pl} (m : t ∈ ts) : p ∈ t ∧ q ∈ t := by
  obtain ⟨t1, t2, _, _, r1, r2, e⟩ := h
  have h1 : t = t1 ∨ t = t2 := by
    rcases e with rfl | rfl <;> simp at m
    · exact m
    · exact m.symm
  rcases h1 with rfl | rfl
  · exact ⟨(rot_mem r1 p).mpr (.inl rfl), (rot_mem r1 q).mpr (.inr (.inl rfl))⟩
  · exact ⟨(rot_mem r2 p).mpr (.inl rfl), (rot_mem r2 q).mpr (.inr (.inr rfl))⟩
def srt2 (w : List Pl) : List Pl :=
  match w with
  | [a, b] => [lo a b, hi a b]
  | w => w
theorem lo_hi (a b : Pl) : (lo a b = a ∧ hi a b = b) ∨ (lo a b = b ∧ hi a b = a) := by
  unfold lo hi
  by_cases c : bef b a
  · by_cases c2 : bef a b
    · exact absurd c (bef_asymm c2)
    · simp [c, c2]
  · by_cases c2 : bef a b
    · simp [c, c2]
    · have e : a = b := by
        rcases bef_tri a b with z | z | z
        · exact absurd z c2
        · exact z
        · exact absurd z c
      subst e
      simp
theorem lo_hi_bef {a b : Pl} (h : a ≠ b) : bef (lo a b) (hi a b) := by
  unfold lo hi
  rcases bef_or h with c | c
  · have c2 := bef_asymm c
    simp [c, c2]
  · have c2 := bef_asymm c
    simp [c, c2]
theorem Quad2.quad {a b c d : Pl} (h : Quad2 a b c d) : Quad a b c d := by
  rcases h with ⟨h1, h2, h3, h4⟩ | ⟨h1, h2, h3, h4⟩
  · exact ⟨by omega, by omega, by omega, by omega⟩
  · refine ⟨by omega, by omega, ?_, ?_⟩
    · rw [tw_swap d c a]; omega
    · rw [tw_swap d c b]; omega
theorem lohi_perm (x y r : Pl) : [lo x y, hi x y, r].Perm [x, y, r] := by
  rcases lo_hi x y with ⟨e1, e2⟩ | ⟨e1, e2⟩
  · rw [e1, e2]
  · rw [e1, e2]
    exact .swap _ _ _
theorem cut_turned {p q x y : Pl} {us : List (List Pl)} (hv : Cvx p q x y) (h : us.Perm [trg (lo x y) (hi x y) p, trg (lo x y) (hi x y) q]) : Cutt x y q p us :=
  cut_of hv.turn (lohi_perm x y q) ((lohi_perm x y p).trans (.cons x (.swap p y []))) (h.trans (.swap _ _ _))
theorem lohi_tw {p q x y : Pl} (hv : Cvx p q x y) : tw (lo x y) (hi x y) p ≠ 0 ∧ tw (lo x y) (hi x y) q ≠ 0 := by
  obtain ⟨_, _, v3, v4⟩ := hv
  exact ⟨(tw_perm (lohi_perm x y p)).mpr (by omega), (tw_perm (lohi_perm x y q)).mpr (by omega)⟩
theorem lohi_ok {x y : Pl} {n : Nat} (ox : x.Ok n) (oy : y.Ok n) : (lo x y).Ok n ∧ (hi x y).Ok n := by
  rcases lo_hi x y with ⟨e1, e2⟩ | ⟨e1, e2⟩ <;> rw [e1, e2]
  · exact ⟨ox, oy⟩
  · exact ⟨oy, ox⟩
theorem Cutt.side {p q x y : Pl} {ts : List (List Pl)} {s : List Pl} (hv : Cvx p q x y) (hb : bef p q) (h : Cutt p q x y ts) (m : s ∈ (dirs ts).map srt2) : ∃ u v : Pl, s = [u, v] ∧
    ((u = p ∧ v = q) ∨ (s ≠ [p, q] ∧ (getD2 (corL (rnds ts)) (keyT [u, v]) = none ∨ getD2 (corL (rnds ts)) (keyT [v, u]) = none))) := by
  obtain ⟨w, mw, rfl⟩ := List.mem_map.mp m
  obtain ⟨a, b, rfl⟩ : ∃ a b, w = [a, b] := by
    obtain ⟨t, _, hm⟩ := List.mem_flatMap.mp mw
    unfold dir1 at hm
    split at hm
    · simp only [List.mem_cons, List.not_mem_nil, or_false] at hm
      rcases hm with rfl | rfl | rfl <;> exact ⟨_, _, rfl⟩
    · cases hm
  obtain ⟨r, mr⟩ := (dirs_rnds ts a b).mp mw
  refine ⟨lo a b, hi a b, rfl, ?_⟩
  have none_of : ∀ u v : Pl, (∀ z, [u, v, z] ∉ rnds ts) → getD2 (corL (rnds ts)) (keyT [u, v]) = none := fun u v n => by
    rcases cor_in (rnds ts) (rnds_three ts) u v with ⟨g, _⟩ | ⟨r, _, m⟩
    · exact g
    · exact absurd m (n r)
  have nb := bef_asymm hb
  rcases h.way hv mr with ⟨rfl, rfl, _⟩ | ⟨rfl, rfl, _⟩ | ⟨n, k1, k2⟩
  · left
    unfold lo hi
    simp [hb, nb]
  · left
    unfold lo hi
    simp [hb, nb]
  · right
    rcases lo_hi a b with ⟨e1, e2⟩ | ⟨e1, e2⟩
    · rw [e1, e2]
      refine ⟨fun z => ?_, .inr (none_of b a n)⟩
      have z : [lo a b, hi a b] = [p, q] := z
      rw [e1, e2] at z
      injection z with z1 z
      injection z with z2 z
      exact k1 ⟨z1, z2⟩
    · rw [e1, e2]
      refine ⟨fun z => ?_, .inl (none_of b a n)⟩
      have z : [lo a b, hi a b] = [p, q] := z
      rw [e1, e2] at z
      injection z with z1 z
      injection z with z2 z
      exact k2 ⟨z2, z1⟩
theorem Cutt.own {p q x y : Pl} {ts : List (List Pl)} (hb : bef p q) (h : Cutt p q x y ts) : [p, q] ∈ (dirs ts).map srt2 := by
  refine List.mem_map.mpr ⟨[p, q], (dirs_rnds ts p q).mpr ⟨x, (h.rnd _).mpr (.inl (.inl rfl))⟩, ?_⟩
  have nb := bef_asymm hb
  unfold srt2 lo hi
  simp [hb, nb]
theorem filter_one {α : Type} [DecidableEq α] {l : List α} {a : α} (nd : l.Nodup) (m : a ∈ l) : l.filter (fun z => decide (z = a)) = [a] := by
  induction l with
  | nil => cases m
  | cons b l ih =>
    obtain ⟨n1, n2⟩ := List.nodup_cons.mp nd
    rw [List.filter_cons]
    by_cases c : b = a
    · subst c
      rw [if_pos (by simp)]
      congr 1
      rw [List.filter_eq_nil_iff]
      intro z hz
      simp only [decide_eq_true_eq]
      intro e
      exact n1 (e ▸ hz)
    · rw [if_neg (by simpa using c)]
      rcases List.mem_cons.mp m with e | m
      · exact absurd e.symm c
      · exact ih n2 m
theorem told_more {p q x y : Pl} {ts us : List (List Pl)} {qs : List Pl} (hv : Cvx p q x y) (h : Cutt p q x y ts) (k : Cutt x y q p us) (hp : qs.Perm [p, q, x, y]) (hs : qs.Pairwise (fun a b => ¬ bef b a)) :
    HT.lexLt (told31 us qs) (told31 ts qs) = decide (Spo p q x y) ∧ told31 us qs ≠ told31 ts qs := by
  cases qs with
  | nil => exact absurd hp.length_eq (by simp)
  | cons m qs =>
    have mem : ∀ r, r ∈ m :: qs ↔ r = p ∨ r = q ∨ r = x ∨ r = y := fun r => by rw [hp.mem_iff]; simp
    have least : ∀ r, r = p ∨ r = q ∨ r = x ∨ r = y → r ≠ m → bef m r := fun r hr ne => by
      rcases List.mem_cons.mp ((mem r).mpr hr) with e | mr
      · exact absurd e ne
      · rcases bef_tri m r with z | z | z
        · exact z
        · exact absurd z.symm ne
        · exact absurd z ((List.pairwise_cons.mp hs).1 r mr)
    unfold told31
    rw [List.map_cons, List.map_cons, HT.lexLt_cons, HT.lexLt_cons]
    rcases cut_more hv h k ((mem m).mp List.mem_cons_self) least with ⟨s, c | ⟨c1, c2⟩⟩ | ⟨s, c | ⟨c1, c2⟩⟩
    · rw [if_neg (by omega), decide_eq_true s, decide_eq_true c]
      refine ⟨rfl, fun z => ?_⟩
      injection z with z _
      omega
    · unfold arr at c2
      rw [if_pos c1, if_neg (by omega), decide_eq_true s, decide_eq_true (by omega)]
      refine ⟨rfl, fun z => ?_⟩
      injection z with _ z
      injection z with z _
      omega
    · rw [if_neg (by omega), decide_eq_false s, decide_eq_false (by omega)]
      refine ⟨rfl, fun z => ?_⟩
      injection z with z _
      omega
    · unfold arr at c2
      rw [if_pos c1.symm, if_neg (by omega), decide_eq_false s, decide_eq_false (by omega)]
      refine ⟨rfl, fun z => ?_⟩
      injection z with _ z
      injection z with z _
      omega
theorem eqDs_ints : ∀ ns ms : List Int, eqDs (ns.map D.int) (ms.map D.int) = decide (ns = ms)
  | [], [] => by simp [eqDs_nil]
  | [], m :: ms => by simp [eqDs]
  | n :: ns, [] => by simp [eqDs]
  | n :: ns, m :: ms => by
    rw [List.map_cons, List.map_cons, eqDs_cons, eqD_int, eqDs_ints ns ms, Bool.eq_iff_iff]
    simp
theorem told_len (ts : List (List Pl)) (qs : List Pl) : (told31 ts qs).length = qs.length + 1 := by simp [told31]
theorem quad_cut {a b c d : Pl} {ts us : List (List Pl)} (hq : Quad2 a b c d) (h1 : ts.Perm [trg a b c, trg a b d]) (h2 : us.Perm [trg c d a, trg c d b]) :
    ∃ X Y, ((X = c ∧ Y = d) ∨ (X = d ∧ Y = c)) ∧ Cvx (lo a b) (hi a b) X Y ∧ bef (lo a b) (hi a b) ∧ Cutt (lo a b) (hi a b) X Y ts ∧ Cutt X Y (hi a b) (lo a b) us := by
  have sw : ∀ x y z : Pl, [x, y, z].Perm [x, z, y] := fun x y z => .cons x (.swap z y [])
  have key : ∃ X Y, ((X = c ∧ Y = d) ∨ (X = d ∧ Y = c)) ∧ Cvx a b X Y ∧ Cutt a b X Y ts ∧ Cutt X Y b a us := by
    rcases hq with hv | hv
    · exact ⟨c, d, .inl ⟨rfl, rfl⟩, hv, cut_of hv (.refl _) (sw a b d) h1, cut_of hv.turn (.refl _) (sw c d a) (h2.trans (.swap _ _ _))⟩
    · exact ⟨d, c, .inr ⟨rfl, rfl⟩, hv, cut_of hv (.refl _) (sw a b c) (h1.trans (.swap _ _ _)), cut_of hv.turn (.swap d c [b]) ((sw c d a).trans (((List.Perm.swap a c [d]).trans (.cons a (.swap d c []))).trans (.swap d a [c]))) (h2.trans (.swap _ _ _))⟩
  obtain ⟨X, Y, e, hv, k1, k2⟩ := key
  have hb := lo_hi_bef hv.ne.1
  rcases lo_hi a b with ⟨e1, e2⟩ | ⟨e1, e2⟩
  · rw [e1, e2] at hb ⊢
    exact ⟨X, Y, e, hv, hb, k1, k2⟩
  · rw [e1, e2] at hb ⊢
    exact ⟨Y, X, by rcases e with ⟨z1, z2⟩ | ⟨z1, z2⟩ <;> simp [z1, z2], hv.back, hb, k1.back, k2.back⟩
theorem Quad2.other {a b c d : Pl} (h : Quad2 a b c d) : Quad2 c d a b := by
  rcases h with h | h
  · exact .inr h.turn
  · exact .inl h.turn.back
structure Turn (P V X Y : Pl) (T U : List (List Pl)) (qs : List Pl) : Prop where
  cv : Cvx P V X Y
  bf : bef P V
  ct : Cutt P V X Y T
  cu : Cutt X Y V P U
  su : U.Pairwise (fun a b => lexP b a = false)
  o1 : P.Ok 140
  o2 : V.Ok 140
  o3 : X.Ok 140
  o4 : Y.Ok 140
  lx : HT.lexLt (told31 U qs) (told31 T qs) = decide (Spo P V X Y)
theorem turn_of {a b c d : Pl} {ts us : List (List Pl)} {qs : List Pl} (hq : Quad2 a b c d) (h1 : ts.Perm [trg a b c, trg a b d]) (h2 : us.Perm [trg c d a, trg c d b]) (su : us.Pairwise (fun a b => lexP b a = false)) (oa : a.Ok 140) (ob : b.Ok 140) (oc : c.Ok 140) (od : d.Ok 140)
    (hp : qs.Perm [a, b, c, d]) (hs : qs.Pairwise (fun a b => ¬ bef b a)) : (∃ X Y, Turn (lo a b) (hi a b) X Y ts us qs) ∧ told31 us qs ≠ told31 ts qs := by
  obtain ⟨X, Y, e, hv, hb, k1, k2⟩ := quad_cut hq h1 h2
  have pm : [a, b, c, d].Perm [lo a b, hi a b, X, Y] := by
    have pe : [c, d].Perm [X, Y] := by
      rcases e with ⟨rfl, rfl⟩ | ⟨rfl, rfl⟩
      · exact .refl _
      · exact .swap _ _ _
    rcases lo_hi a b with ⟨e1, e2⟩ | ⟨e1, e2⟩ <;> rw [e1, e2]
    · exact .cons _ (.cons _ pe)
    · exact (List.Perm.swap b a [c, d]).trans (.cons _ (.cons _ pe))
  obtain ⟨m1, m2⟩ := told_more hv k1 k2 (hp.trans pm) hs
  obtain ⟨o1, o2⟩ := lohi_ok oa ob
  refine ⟨⟨X, Y, hv, hb, k1, k2, su, o1, o2, ?_, ?_, m1⟩, m2⟩
  · rcases e with ⟨rfl, rfl⟩ | ⟨rfl, rfl⟩ <;> assumption
  · rcases e with ⟨rfl, rfl⟩ | ⟨rfl, rfl⟩ <;> assumption
end L3
namespace Pf
open PySem L2 L3

def top (i : Nat) : Stmt := PySem.Challenge.pw_nearland_k32_two_cuts.main.body.getD i (.Pass ⟨0, 0, 0, 0⟩)
abbrev s__law_at : Stmt := top 30
abbrev s__law_spot : Stmt := top 31
abbrev s__law_twice : Stmt := top 32
abbrev s__law_quadrangle : Stmt := top 37
abbrev s__law_measure : Stmt := top 38
abbrev s__law_int : Stmt := top 34
abbrev s__law_places_of : Stmt := top 35
abbrev s__law_rows : Stmt := top 36
abbrev s__law_triangle : Stmt := top 33
abbrev s_rounds : Stmt := top 18
abbrev s_left_corners : Stmt := top 23
abbrev s_side_between : Stmt := top 16
abbrev s_directed_sides : Stmt := top 19
abbrev s_sides_of : Stmt := top 21
abbrev s_twice : Stmt := top 7
abbrev s_ring_area : Stmt := top 10
abbrev s_sign : Stmt := top 5
abbrev s_apart : Stmt := top 11
abbrev s_ring : Stmt := top 12
abbrev s_turn : Stmt := top 8
abbrev s_spoils : Stmt := top 13
abbrev s_back : Stmt := top 15
abbrev s_is_wrong : Stmt := top 24
abbrev s_wrong : Stmt := top 25
abbrev s_can_turn : Stmt := top 26
abbrev s_other_side : Stmt := top 27
abbrev s_triangle_of : Stmt := top 17
abbrev s_turned_over : Stmt := top 28
abbrev s_law : Stmt := top 39
set_option genInjectivity false in
set_option genSizeOf false in
structure Ad where
  f__law_at : Addr
  fd__law_at : FuncData
  f__law_spot : Addr
  fd__law_spot : FuncData
  f__law_twice : Addr
  fd__law_twice : FuncData
  f__law_quadrangle : Addr
  fd__law_quadrangle : FuncData
  f__law_measure : Addr
  fd__law_measure : FuncData
  f__law_int : Addr
  fd__law_int : FuncData
  f__law_places_of : Addr
  fd__law_places_of : FuncData
  f__law_rows : Addr
  fd__law_rows : FuncData
  f__law_triangle : Addr
  fd__law_triangle : FuncData
  f_rounds : Addr
  fd_rounds : FuncData
  f_left_corners : Addr
  fd_left_corners : FuncData
  f_side_between : Addr
  fd_side_between : FuncData
  f_directed_sides : Addr
  fd_directed_sides : FuncData
  f_sides_of : Addr
  fd_sides_of : FuncData
  f_twice : Addr
  fd_twice : FuncData
  f_ring_area : Addr
  fd_ring_area : FuncData
  f_sign : Addr
  fd_sign : FuncData
  f_apart : Addr
  fd_apart : FuncData
  f_ring : Addr
  fd_ring : FuncData
  f_turn : Addr
  fd_turn : FuncData
  f_spoils : Addr
  fd_spoils : FuncData
  f_back : Addr
  fd_back : FuncData
  f_is_wrong : Addr
  fd_is_wrong : FuncData
  f_wrong : Addr
  fd_wrong : FuncData
  f_can_turn : Addr
  fd_can_turn : FuncData
  f_other_side : Addr
  fd_other_side : FuncData
  f_triangle_of : Addr
  fd_triangle_of : FuncData
  f_turned_over : Addr
  fd_turned_over : FuncData
  f_law : Addr
  fd_law : FuncData
structure Txt (K : PySem.W.Frag) (mg : Str → Option Value) (t : Ad) : Prop where
  F__law_at : Fun K "_law_at" "_law_at" s__law_at t.f__law_at t.fd__law_at
  m__law_at : mg "_law_at" = some (.ref t.f__law_at)
  F__law_spot : Fun K "_law_spot" "_law_spot" s__law_spot t.f__law_spot t.fd__law_spot
  m__law_spot : mg "_law_spot" = some (.ref t.f__law_spot)
  F__law_twice : Fun K "_law_twice" "_law_twice" s__law_twice t.f__law_twice t.fd__law_twice
  m__law_twice : mg "_law_twice" = some (.ref t.f__law_twice)
  F__law_quadrangle : Fun K "_law_quadrangle" "_law_quadrangle" s__law_quadrangle t.f__law_quadrangle t.fd__law_quadrangle
  m__law_quadrangle : mg "_law_quadrangle" = some (.ref t.f__law_quadrangle)
  F__law_measure : Fun K "_law_measure" "_law_measure" s__law_measure t.f__law_measure t.fd__law_measure
  m__law_measure : mg "_law_measure" = some (.ref t.f__law_measure)
  F__law_int : Fun K "_law_int" "_law_int" s__law_int t.f__law_int t.fd__law_int
  m__law_int : mg "_law_int" = some (.ref t.f__law_int)
  F__law_places_of : Fun K "_law_places_of" "_law_places_of" s__law_places_of t.f__law_places_of t.fd__law_places_of
  m__law_places_of : mg "_law_places_of" = some (.ref t.f__law_places_of)
  F__law_rows : Fun K "_law_rows" "_law_rows" s__law_rows t.f__law_rows t.fd__law_rows
  m__law_rows : mg "_law_rows" = some (.ref t.f__law_rows)
  F__law_triangle : Fun K "_law_triangle" "_law_triangle" s__law_triangle t.f__law_triangle t.fd__law_triangle
  m__law_triangle : mg "_law_triangle" = some (.ref t.f__law_triangle)
  F_rounds : Fun K "rounds" "rounds" s_rounds t.f_rounds t.fd_rounds
  m_rounds : mg "rounds" = some (.ref t.f_rounds)
  F_left_corners : Fun K "left_corners" "left_corners" s_left_corners t.f_left_corners t.fd_left_corners
  m_left_corners : mg "left_corners" = some (.ref t.f_left_corners)
  F_side_between : Fun K "side_between" "side_between" s_side_between t.f_side_between t.fd_side_between
  m_side_between : mg "side_between" = some (.ref t.f_side_between)
  F_directed_sides : Fun K "directed_sides" "directed_sides" s_directed_sides t.f_directed_sides t.fd_directed_sides
  m_directed_sides : mg "directed_sides" = some (.ref t.f_directed_sides)
  F_sides_of : Fun K "sides_of" "sides_of" s_sides_of t.f_sides_of t.fd_sides_of
  m_sides_of : mg "sides_of" = some (.ref t.f_sides_of)
  F_twice : Fun K "twice" "twice" s_twice t.f_twice t.fd_twice
  m_twice : mg "twice" = some (.ref t.f_twice)
  F_ring_area : Fun K "ring_area" "ring_area" s_ring_area t.f_ring_area t.fd_ring_area
  m_ring_area : mg "ring_area" = some (.ref t.f_ring_area)
  F_sign : Fun K "sign" "sign" s_sign t.f_sign t.fd_sign
  m_sign : mg "sign" = some (.ref t.f_sign)
  F_apart : Fun K "apart" "apart" s_apart t.f_apart t.fd_apart
  m_apart : mg "apart" = some (.ref t.f_apart)
  F_ring : Fun K "ring" "ring" s_ring t.f_ring t.fd_ring
  m_ring : mg "ring" = some (.ref t.f_ring)
  F_turn : Fun K "turn" "turn" s_turn t.f_turn t.fd_turn
  m_turn : mg "turn" = some (.ref t.f_turn)
  F_spoils : Fun K "spoils" "spoils" s_spoils t.f_spoils t.fd_spoils
  m_spoils : mg "spoils" = some (.ref t.f_spoils)
  F_back : Fun K "back" "back" s_back t.f_back t.fd_back
  m_back : mg "back" = some (.ref t.f_back)
  F_is_wrong : Fun K "is_wrong" "is_wrong" s_is_wrong t.f_is_wrong t.fd_is_wrong
  m_is_wrong : mg "is_wrong" = some (.ref t.f_is_wrong)
  F_wrong : Fun K "wrong" "wrong" s_wrong t.f_wrong t.fd_wrong
  m_wrong : mg "wrong" = some (.ref t.f_wrong)
  F_can_turn : Fun K "can_turn" "can_turn" s_can_turn t.f_can_turn t.fd_can_turn
  m_can_turn : mg "can_turn" = some (.ref t.f_can_turn)
  F_other_side : Fun K "other_side" "other_side" s_other_side t.f_other_side t.fd_other_side
  m_other_side : mg "other_side" = some (.ref t.f_other_side)
  F_triangle_of : Fun K "triangle_of" "triangle_of" s_triangle_of t.f_triangle_of t.fd_triangle_of
  m_triangle_of : mg "triangle_of" = some (.ref t.f_triangle_of)
  F_turned_over : Fun K "turned_over" "turned_over" s_turned_over t.f_turned_over t.fd_turned_over
  m_turned_over : mg "turned_over" = some (.ref t.f_turned_over)
  F_law : Fun K "law" "law" s_law t.f_law t.fd_law
  m_law : mg "law" = some (.ref t.f_law)
  no_range : mg "range" = none
  no_sorted : mg "sorted" = none
  no_len : mg "len" = none
  no_isinstance : mg "isinstance" = none
  no_int : mg "int" = none
  no_tuple : mg "tuple" = none
  no_list : mg "list" = none
  no_min : mg "min" = none
  no_max : mg "max" = none
  no_set : mg "set" = none
theorem sc__law_at : FnScope ["_law_script", "_law_k"] ["_law_script", "_law_k"] (defScope s__law_at) := ⟨rfl, rfl, rfl, by decide +kernel, rfl, by decide +kernel, by decide +kernel⟩
theorem sc__law_spot : FnScope ["_law_kind", "_law_cell", "_law_head", "_law_five", "_law_x", "_law_y", "_law_times"] ["_law_kind", "_law_cell", "_law_head"] (defScope s__law_spot) := ⟨rfl, rfl, rfl, by decide +kernel, rfl, by decide +kernel, by decide +kernel⟩
theorem sc__law_twice : FnScope ["_law_a", "_law_b", "_law_c"] ["_law_a", "_law_b", "_law_c"] (defScope s__law_twice) := ⟨rfl, rfl, rfl, by decide +kernel, rfl, by decide +kernel, by decide +kernel⟩
theorem sc__law_quadrangle : FnScope ["_law_script", "_law_kind", "_law_head", "_law_a", "_law_b", "_law_c", "_law_d", "_law_p", "_law_q", "_law_r", "_law_s", "_law_wide", "_law_high"] ["_law_script"] (defScope s__law_quadrangle) := ⟨rfl, rfl, rfl, by decide +kernel, rfl, by decide +kernel, by decide +kernel⟩
theorem sc__law_measure : FnScope ["_law_places", "_law_cover", "_law_some", "_law_due", "_law_t", "_law_wide", "_law_p"] ["_law_places", "_law_cover"] (defScope s__law_measure) := ⟨rfl, rfl, rfl, by decide +kernel, rfl, by decide +kernel, by decide +kernel⟩
theorem sc__law_int : FnScope ["_law_one"] ["_law_one"] (defScope s__law_int) := ⟨rfl, rfl, rfl, by decide +kernel, rfl, by decide +kernel, by decide +kernel⟩
theorem sc__law_places_of : FnScope ["_law_found", "_law_many", "_law_p"] ["_law_found", "_law_many"] (defScope s__law_places_of) := ⟨rfl, rfl, rfl, by decide +kernel, rfl, by decide +kernel, by decide +kernel⟩
theorem sc__law_rows : FnScope ["_law_found", "_law_due", "_law_many", "_law_k"] ["_law_found", "_law_due", "_law_many"] (defScope s__law_rows) := ⟨rfl, rfl, rfl, by decide +kernel, rfl, by decide +kernel, by decide +kernel⟩
theorem sc__law_triangle : FnScope ["_law_a", "_law_b", "_law_c", "_law_some"] ["_law_a", "_law_b", "_law_c"] (defScope s__law_triangle) := ⟨rfl, rfl, rfl, by decide +kernel, rfl, by decide +kernel, by decide +kernel⟩
theorem sc_rounds : FnScope ["t"] ["t"] (defScope s_rounds) := ⟨rfl, rfl, rfl, by decide +kernel, rfl, by decide +kernel, by decide +kernel⟩
theorem sc_left_corners : FnScope ["cover", "corners", "t", "one"] ["cover"] (defScope s_left_corners) := ⟨rfl, rfl, rfl, by decide +kernel, rfl, by decide +kernel, by decide +kernel⟩
theorem sc_side_between : FnScope ["a", "b"] ["a", "b"] (defScope s_side_between) := ⟨rfl, rfl, rfl, by decide +kernel, rfl, by decide +kernel, by decide +kernel⟩
theorem sc_directed_sides : FnScope ["cover", "ways", "t"] ["cover"] (defScope s_directed_sides) := ⟨rfl, rfl, rfl, by decide +kernel, rfl, by decide +kernel, by decide +kernel⟩
theorem sc_sides_of : FnScope ["cover"] ["cover"] (defScope s_sides_of) := ⟨rfl, rfl, rfl, by decide +kernel, rfl, by decide +kernel, by decide +kernel⟩
theorem sc_twice : FnScope ["a", "b", "c"] ["a", "b", "c"] (defScope s_twice) := ⟨rfl, rfl, rfl, by decide +kernel, rfl, by decide +kernel, by decide +kernel⟩
theorem sc_ring_area : FnScope ["a", "b", "c", "area"] ["a", "b", "c"] (defScope s_ring_area) := ⟨rfl, rfl, rfl, by decide +kernel, rfl, by decide +kernel, by decide +kernel⟩
theorem sc_sign : FnScope ["number"] ["number"] (defScope s_sign) := ⟨rfl, rfl, rfl, by decide +kernel, rfl, by decide +kernel, by decide +kernel⟩
theorem sc_apart : FnScope ["p", "q", "right", "up"] ["p", "q"] (defScope s_apart) := ⟨rfl, rfl, rfl, by decide +kernel, rfl, by decide +kernel, by decide +kernel⟩
theorem sc_ring : FnScope ["a", "b", "c", "d", "area", "depth"] ["a", "b", "c", "d"] (defScope s_ring) := ⟨rfl, rfl, rfl, by decide +kernel, rfl, by decide +kernel, by decide +kernel⟩
theorem sc_turn : FnScope ["a", "b", "c"] ["a", "b", "c"] (defScope s_turn) := ⟨rfl, rfl, rfl, by decide +kernel, rfl, by decide +kernel, by decide +kernel⟩
theorem sc_spoils : FnScope ["a", "b", "c", "d", "lies", "three"] ["a", "b", "c", "d"] (defScope s_spoils) := ⟨rfl, rfl, rfl, by decide +kernel, rfl, by decide +kernel, by decide +kernel⟩
theorem sc_back : FnScope ["way"] ["way"] (defScope s_back) := ⟨rfl, rfl, rfl, by decide +kernel, rfl, by decide +kernel, by decide +kernel⟩
theorem sc_is_wrong : FnScope ["corners", "side"] ["corners", "side"] (defScope s_is_wrong) := ⟨rfl, rfl, rfl, by decide +kernel, rfl, by decide +kernel, by decide +kernel⟩
theorem sc_wrong : FnScope ["cover", "corners"] ["cover"] (defScope s_wrong) := ⟨rfl, rfl, rfl, by decide +kernel, rfl, by decide +kernel, by decide +kernel⟩
theorem sc_can_turn : FnScope ["corners", "side", "c", "d"] ["corners", "side"] (defScope s_can_turn) := ⟨rfl, rfl, rfl, by decide +kernel, rfl, by decide +kernel, by decide +kernel⟩
theorem sc_other_side : FnScope ["cover", "side", "corners"] ["cover", "side"] (defScope s_other_side) := ⟨rfl, rfl, rfl, by decide +kernel, rfl, by decide +kernel, by decide +kernel⟩
theorem sc_triangle_of : FnScope ["a", "b", "c", "three"] ["a", "b", "c"] (defScope s_triangle_of) := ⟨rfl, rfl, rfl, by decide +kernel, rfl, by decide +kernel, by decide +kernel⟩
theorem sc_turned_over : FnScope ["cover", "side", "new", "stay", "come"] ["cover", "side"] (defScope s_turned_over) := ⟨rfl, rfl, rfl, by decide +kernel, rfl, by decide +kernel, by decide +kernel⟩
theorem sc_law : FnScope ["_law_script", "_law_a", "_law_b", "_law_c", "_law_d", "_law_sides", "_law_cuts", "_law_highs", "_law_handed", "_law_k", "_law_due"] ["_law_script"] (defScope s_law) := ⟨rfl, rfl, rfl, by decide +kernel, rfl, by decide +kernel, by decide +kernel⟩

section
variable {P : Program} {w : World} {K : PySem.W.Frag} {mg : Str → Option Value} {base : Heap} {t : Ad}
theorem bd__law_at (T : Txt K mg t) : Binds K t.fd__law_at ["_law_script", "_law_k"] [] := T.F__law_at.binds fun _ _ _ _ _ _ us hl => match us, hl with | [_, _], _ => rfl
def S__law_at : SpP := fun ds Q => ∃ (ns : List Int) (k : Int), ds = [.frl (ns.map L3.D.int), .int k] ∧ (∀ z ∈ ns, Att.Big z) ∧ ns.length ≤ 63 ∧ ∀ z : Int, Att.Big z → Q (.int z)
theorem ok__law_at (T : Txt K mg t) : FnOk P w K mg base CX0 1 t.f__law_at t.fd__law_at ["_law_script", "_law_k"] (spP K S__law_at) := by
  refine fnP T.F__law_at sc__law_at (fun ds Q h => by (first | (obtain ⟨_, rfl, _⟩ := h; rfl) | (obtain ⟨_, _, rfl, _⟩ := h; rfl) | (obtain ⟨_, _, _, rfl, _⟩ := h; rfl) | (obtain ⟨_, _, _, _, rfl, _⟩ := h; rfl) | (obtain ⟨_, _, _, _, _, rfl, _⟩ := h; rfl) | (obtain ⟨_, _, _, _, _, _, rfl, _⟩ := h; rfl) | (obtain ⟨_, _, _, _, _, _, _, rfl, _⟩ := h; rfl))) (fun cdv A outer s H hr => ?_)
  have hu := hr.units
  refine ⟨_, (b_one (s_ret (q_ix (q_bin o_cat (q_sliceL (q_var 0) (p_some (q_var 1)) (p_some (q_bin o_add (q_var 1) q_int))) (q_lst (a_cons q_int a_nil))) q_int))), fun ds Q h => ?_⟩
  obtain ⟨ns, k, rfl, hb, hlen, h⟩ := h
  walk_at "rd"
  refine ⟨_, .inl rfl, fun p hp => ?_⟩
  walk_at "rd"
  intro q hq
  have hc : ∃ zs : List Int, (∀ z ∈ zs, Att.Big z) ∧ cutD (ns.map L3.D.int) (some k) (some (k + 1)) = zs.map L3.D.int := by
    refine ⟨(ns.drop (HT.sIx (ns.map L3.D.int).length 0 (some k))).take (HT.sIx (ns.map L3.D.int).length (ns.map L3.D.int).length (some (k + 1)) - HT.sIx (ns.map L3.D.int).length 0 (some k)), fun z hz => hb z (List.mem_of_mem_drop (List.mem_of_mem_take hz)), ?_⟩
    unfold cutD
    rw [List.map_take, List.map_drop]
  obtain ⟨zs, hzs, ec⟩ := hc
  have hp2 : updM noM p (.lst (zs.map L3.D.int)) p = some (.lst (zs.map L3.D.int)) := updM_same
  have ec2 : cutD (ns.map L3.D.int) (some k) (some ((fun i j : Int => i + j) k 1)) = zs.map L3.D.int := ec
  rw [ec2] at hq ⊢
  refine ⟨p, q, _, _, rfl, rfl, updM_old hp2 hq, updM_same, ?_, fun r hr => ?_⟩
  · have h1 : (zs.map L3.D.int).length ≤ (ns.map L3.D.int).length := by
      rw [← ec]
      unfold cutD
      rw [List.length_take, List.length_drop]
      omega
    rw [List.length_map (as := ns)] at h1
    have : (1000 : Nat) < sizeLine := by decide
    show (zs.map L3.D.int).length + 1 ≤ sizeLine
    omega
  walk_at "rd"
  have ha : ∃ z : Int, Att.Big z ∧ atI (zs.map L3.D.int ++ [.int 0]) 0 = some (.int z) := by
    cases zs with
    | nil => exact ⟨0, by show Builtin.Int.intBits 0 ≤ _; decide, rfl⟩
    | cons z zs => exact ⟨z, hzs z (List.mem_cons_self ..), atI_nat (j := 0) rfl⟩
  obtain ⟨z, bz, ez⟩ := ha
  exact ⟨_, _, _, .inr (.inr ⟨r, rfl, updM_same⟩), rfl, ez, h z bz⟩
theorem bd__law_spot (T : Txt K mg t) : Binds K t.fd__law_spot ["_law_kind", "_law_cell", "_law_head"] [] := T.F__law_spot.binds fun _ _ _ _ _ _ us hl => match us, hl with | [_, _, _], _ => rfl
def S__law_spot : SpP := fun ds Q => ∃ kd c h : Int, ds = [.int kd, .int c, .int h] ∧ 0 ≤ kd ∧ kd < 8 ∧ Att.Big c ∧ ∀ p : Pl, p.Ok 130 → Q p.d
def five31 : List Pl := [⟨5, 0⟩, ⟨4, 3⟩, ⟨3, 4⟩, ⟨0, 5⟩, ⟨-3, 4⟩, ⟨-4, 3⟩, ⟨-5, 0⟩, ⟨-4, -3⟩, ⟨-3, -4⟩, ⟨0, -5⟩, ⟨3, -4⟩, ⟨4, -3⟩, ⟨0, 0⟩]
theorem at_pl {ps : List Pl} {k : Int} (h0 : 0 ≤ k) (h1 : k < ps.length) : ∃ p : Pl, p ∈ ps ∧ atI (ps.map Pl.d) k = some p.d := by
  obtain ⟨j, rfl⟩ : ∃ j : Nat, k = (j : Int) := ⟨k.toNat, by omega⟩
  have hlt : j < ps.length := by omega
  refine ⟨ps[j], List.getElem_mem hlt, atI_nat ?_⟩
  rw [List.getElem?_map, List.getElem?_eq_getElem hlt]
  rfl
theorem five_sm {p : Pl} (h : p ∈ five31) : Sm 3 p.x ∧ Sm 3 p.y := by
  have : five31.all (fun p => decide (p.x.natAbs < 2 ^ 3) && decide (p.y.natAbs < 2 ^ 3)) = true := by decide
  have := List.all_eq_true.mp this p h
  rw [Bool.and_eq_true] at this
  exact ⟨of_decide_eq_true this.1, of_decide_eq_true this.2⟩
theorem ok__law_spot (T : Txt K mg t) : FnOk P w K mg base CX0 1 t.f__law_spot t.fd__law_spot ["_law_kind", "_law_cell", "_law_head"] (spP K S__law_spot) := by
  refine fnP T.F__law_spot sc__law_spot (fun ds Q h => by (first | (obtain ⟨_, rfl, _⟩ := h; rfl) | (obtain ⟨_, _, rfl, _⟩ := h; rfl) | (obtain ⟨_, _, _, rfl, _⟩ := h; rfl) | (obtain ⟨_, _, _, _, rfl, _⟩ := h; rfl) | (obtain ⟨_, _, _, _, _, rfl, _⟩ := h; rfl) | (obtain ⟨_, _, _, _, _, _, rfl, _⟩ := h; rfl) | (obtain ⟨_, _, _, _, _, _, _, rfl, _⟩ := h; rfl))) (fun cdv A outer s H hr => ?_)
  have hu := hr.units
  refine ⟨_, (b_cons (s_ifJ (k_cmp o_gt (q_var 0) q_int (nomark _)) (b_one (s_set (i := 0) sc__law_spot.nd rfl (Or.inl rfl) (q_ix (q_lst (a_cons q_int (a_cons q_int (a_cons q_int (a_cons q_int a_nil))))) (q_bin o_add (q_bin o_mulB q_int (q_bin o_sub (q_var 0) q_int)) (q_bin o_mod (q_bin o_fdiv (q_var 1) q_int) q_int))))))
      (b_cons (s_if (k_cmp (o_eq hu) (q_var 0) q_int (nomark _)) (b_one (s_ret (q_tup (a_cons (q_bin o_add (q_bin o_mod (q_var 1) q_int) (q_bin o_pow q_int q_int)) (a_cons (q_bin o_sub (q_bin o_mod (q_bin o_fdiv (q_var 1) q_int) q_int) (q_bin o_pow q_int q_int)) a_nil))))) b_nil)
      (b_cons (s_if (k_cmp (o_eq hu) (q_var 0) q_int (nomark _)) (b_cons (s_set (i := 3) sc__law_spot.nd rfl (Or.inl rfl) (q_lst (a_cons (q_tup (a_cons q_int (a_cons q_int a_nil))) (a_cons (q_tup (a_cons q_int (a_cons q_int a_nil))) (a_cons (q_tup (a_cons q_int (a_cons q_int a_nil))) (a_cons (q_tup (a_cons q_int (a_cons q_int a_nil))) (a_cons (q_tup (a_cons (q_neg q_int) (a_cons q_int a_nil))) (a_cons (q_tup (a_cons (q_neg q_int) (a_cons q_int a_nil))) (a_cons (q_tup (a_cons (q_neg q_int) (a_cons q_int a_nil))) a_nil)))))))))
      (b_cons (s_set (i := 3) sc__law_spot.nd rfl (Or.inl rfl) (q_bin o_cat (q_var 3) (q_lst (a_cons (q_tup (a_cons (q_neg q_int) (a_cons (q_neg q_int) a_nil))) (a_cons (q_tup (a_cons (q_neg q_int) (a_cons (q_neg q_int) a_nil))) (a_cons (q_tup (a_cons q_int (a_cons (q_neg q_int) a_nil))) (a_cons (q_tup (a_cons q_int (a_cons (q_neg q_int) a_nil))) (a_cons (q_tup (a_cons q_int (a_cons (q_neg q_int) a_nil))) (a_cons (q_tup (a_cons q_int (a_cons q_int a_nil))) a_nil)))))))))
      (b_cons (s_asg (q_ix (q_var 3) (q_bin o_mod (q_var 1) q_int)) (g_seq rfl (gs_cons (g_name (i := 4) sc__law_spot.nd rfl (Or.inl rfl)) (gs_cons (g_name (i := 5) sc__law_spot.nd rfl (Or.inl rfl)) gs_nil))))
      (b_cons (s_set (i := 6) sc__law_spot.nd rfl (Or.inl rfl) (q_bin o_mulB (q_bin o_add q_int (q_bin o_mod (q_var 2) q_int)) (q_bin o_add q_int (q_bin o_mod (q_bin o_fdiv (q_var 1) q_int) q_int))))
      (b_one (s_ret (q_tup (a_cons (q_bin o_add (q_bin o_mulB (q_var 4) (q_var 6)) (q_bin o_mod (q_bin o_fdiv (q_var 2) q_int) (q_bin o_pow q_int q_int))) (a_cons (q_bin o_sub (q_bin o_mulB (q_var 5) (q_var 6)) (q_bin o_mod (q_bin o_fdiv (q_var 2) q_int) (q_bin o_pow q_int q_int))) a_nil))))))))) b_nil)
      (b_cons (s_if (k_cmp (o_eq hu) (q_var 0) q_int (nomark _)) (b_cons (s_set (i := 4) sc__law_spot.nd rfl (Or.inl rfl) (q_bin o_sub (q_bin o_mod (q_var 1) q_int) q_int))
      (b_one (s_ret (q_tup (a_cons (q_var 4) (a_cons (q_bin o_add (q_bin o_mulB q_int (q_var 4)) (q_bin o_mulB (q_bin o_fdiv (q_bin o_mod (q_bin o_fdiv (q_var 1) q_int) q_int) q_int) (q_bin o_add q_int (q_bin o_mod (q_bin o_fdiv (q_var 1) q_int) q_int)))) a_nil)))))) b_nil)
      (b_cons (s_if (k_cmp (o_eq hu) (q_var 0) q_int (nomark _)) (b_one (s_ret (q_tup (a_cons (q_bin o_sub (q_bin o_mod (q_bin o_mulB (q_var 1) q_int) q_int) q_int) (a_cons (q_bin o_sub (q_bin o_mod (q_bin o_mulB (q_var 1) q_int) q_int) q_int) a_nil))))) b_nil)
      (b_cons (s_if (k_cmp (o_eq hu) (q_var 0) q_int (nomark _)) (b_cons (s_set (i := 4) sc__law_spot.nd rfl (Or.inl rfl) (q_bin o_mod (q_bin o_mulB (q_var 1) (q_bin o_pow q_int q_int)) q_int))
      (b_one (s_ret (q_tup (a_cons (q_bin o_sub (q_var 4) (q_bin o_pow q_int q_int)) (a_cons (q_bin o_sub (q_bin o_pow q_int q_int) (q_bin o_mod (q_bin o_mulB (q_var 1) (q_bin o_pow q_int q_int)) q_int)) a_nil)))))) b_nil)
      (b_one (s_ret (q_tup (a_cons (q_bin o_mod (q_var 1) q_int) (a_cons (q_bin o_mod (q_bin o_fdiv (q_var 1) q_int) q_int) a_nil))))))))))), fun ds Q h => ?_⟩
  obtain ⟨kd, c, hd, rfl, h0, h8, bc, h⟩ := h
  walk_at "rd"
  refine ⟨fun ρ M' => ∃ k : Int, ρ = [some (.int k), some (.int c), some (.int hd), none, none, none, none], ?_, ?_⟩
  · walk_at "rd"
    refine ite2 (fun k => ?_) (fun k => ?_)
    · have k : 5 < kd := of_decide_eq_true k
      walk_at "rd"
      intro p hp
      walk_at "rd"
      refine ⟨Or.inr (Or.inl (Or.inl ⟨by decide, by decide⟩)), ?_⟩
      walk_at "rd"
      have hm0 : 0 ≤ c / 16 % 2 := Int.emod_nonneg _ (by decide)
      have hm2 : c / 16 % 2 < 2 := Int.emod_lt_of_pos _ (by decide)
      obtain ⟨z, _, ez⟩ := at_int (ns := [0, 3, 0, 5]) (k := 2 * (kd - 6) + c / 16 % 2) (by omega) (by show _ < (4 : Int); omega)
      refine ⟨_, _, _, .inr (.inr ⟨p, rfl, updM_same⟩), rfl, ez, ?_⟩
      walk_at "rd"
      exact Hold.mk ⟨z, rfl⟩
    · exact Hold.mk ⟨kd, rfl⟩
  rintro ρ M' ⟨k, rfl⟩
  walk_at "rd"
  refine ite2 (fun _ => ?_) (fun _ => ?_)
  · walk_at "rd"
    exact h ⟨_, _⟩ ⟨by walk_at "smle", by walk_at "smle"⟩
  walk_at "rd"
  refine ite2 (fun _ => ?_) (fun _ => ?_)
  · walk_at "rd"
    intro p hp
    walk_at "rd"
    intro q hq
    refine ⟨p, q, _, _, rfl, rfl, updM_old updM_same hq, updM_same, by show 13 ≤ sizeLine; decide, fun r hr => ?_⟩
    walk_at "rd"
    obtain ⟨v, m1, e1⟩ := at_pl (ps := five31) (k := c % 13) (Int.emod_nonneg _ (by decide)) (Int.emod_lt_of_pos _ (by decide))
    obtain ⟨s1, s2⟩ := five_sm m1
    refine ⟨_, _, _, .inr (.inr ⟨r, rfl, updM_same⟩), rfl, e1, ?_⟩
    walk_at "rd"
    exact h ⟨_, _⟩ ⟨by walk_at "smle", by walk_at "smle"⟩
  walk_at "rd"
  refine ite2 (fun _ => ?_) (fun _ => ?_)
  · have s1 : Sm 2 (c / 11 % 3 / 2) := by
      show (c / 11 % 3 / 2).natAbs < 4
      omega
    walk_at "rd"
    exact h ⟨_, _⟩ ⟨by walk_at "smle", by walk_at "smle"⟩
  walk_at "rd"
  refine ite2 (fun _ => ?_) (fun _ => ?_)
  · walk_at "rd"
    refine ⟨Or.inr (Or.inl (Or.inr ⟨by decide, by decide⟩)), ?_⟩
    walk_at "rd"
    refine ⟨Or.inr (Or.inl (Or.inr ⟨by decide, by decide⟩)), ?_⟩
    walk_at "rd"
    exact h ⟨_, _⟩ ⟨by walk_at "smle", by walk_at "smle"⟩
  walk_at "rd"
  refine ite2 (fun _ => ?_) (fun _ => ?_)
  · walk_at "rd"
    refine ⟨Or.inr (Or.inr ⟨bc, 200, by decide +kernel, by decide⟩), ?_⟩
    walk_at "rd"
    refine ⟨Or.inr (Or.inr ⟨bc, 200, by decide +kernel, by decide⟩), ?_⟩
    walk_at "rd"
    exact h ⟨_, _⟩ ⟨by walk_at "smle", by walk_at "smle"⟩
  walk_at "rd"
  exact h ⟨_, _⟩ ⟨by walk_at "smle", by walk_at "smle"⟩
theorem bd__law_twice (T : Txt K mg t) : Binds K t.fd__law_twice ["_law_a", "_law_b", "_law_c"] [] := T.F__law_twice.binds fun _ _ _ _ _ _ us hl => match us, hl with | [_, _, _], _ => rfl
def S__law_twice : SpP := fun ds Q => ∃ a b c : Pl, ds = [a.d, b.d, c.d] ∧ a.Ok 140 ∧ b.Ok 140 ∧ c.Ok 140 ∧ Q (.int (tw a b c))
theorem ok__law_twice (T : Txt K mg t) : FnOk P w K mg base CX0 1 t.f__law_twice t.fd__law_twice ["_law_a", "_law_b", "_law_c"] (spP K S__law_twice) := by
  refine fnP T.F__law_twice sc__law_twice (fun ds Q h => by (first | (obtain ⟨_, rfl, _⟩ := h; rfl) | (obtain ⟨_, _, rfl, _⟩ := h; rfl) | (obtain ⟨_, _, _, rfl, _⟩ := h; rfl) | (obtain ⟨_, _, _, _, rfl, _⟩ := h; rfl) | (obtain ⟨_, _, _, _, _, rfl, _⟩ := h; rfl) | (obtain ⟨_, _, _, _, _, _, rfl, _⟩ := h; rfl) | (obtain ⟨_, _, _, _, _, _, _, rfl, _⟩ := h; rfl))) (fun cdv A outer s H hr => ?_)
  have hu := hr.units
  refine ⟨_, (b_one (s_ret (q_bin o_sub (q_bin o_mul (q_bin o_sub (q_ix (q_var 1) q_int) (q_ix (q_var 0) q_int)) (q_bin o_sub (q_ix (q_var 2) q_int) (q_ix (q_var 0) q_int))) (q_bin o_mul (q_bin o_sub (q_ix (q_var 1) q_int) (q_ix (q_var 0) q_int)) (q_bin o_sub (q_ix (q_var 2) q_int) (q_ix (q_var 0) q_int)))))), fun ds Q h => ?_⟩
  obtain ⟨a, b, c, rfl, ⟨a1, a2⟩, ⟨b1, b2⟩, ⟨c1, c2⟩, h⟩ := h
  unfold tw at h
  walk_at "rd"
  exact h
theorem bd__law_quadrangle (T : Txt K mg t) : Binds K t.fd__law_quadrangle ["_law_script"] [] := T.F__law_quadrangle.binds fun _ _ _ _ _ _ us hl => match us, hl with | [_], _ => rfl
def S__law_quadrangle : SpP := fun ds Q => ∃ ns : List Int, ds = [.frl (ns.map L3.D.int)] ∧ (∀ z ∈ ns, Att.Big z) ∧ ns.length ≤ 63 ∧ ∀ a b c d : Pl, a.Ok 140 → b.Ok 140 → c.Ok 140 → d.Ok 140 → Quad2 a b c d → Q (.tup [a.d, b.d, c.d, d.d])
theorem four_of {α : Type} {qs : List α} (h : qs.length = 4) : ∃ a b c d, qs = [a, b, c, d] := by
  match qs, h with
  | [a, b, c, d], _ => exact ⟨a, b, c, d, rfl⟩
theorem ok__law_quadrangle (T : Txt K mg t) : FnOk P w K mg base CX0 2 t.f__law_quadrangle t.fd__law_quadrangle ["_law_script"] (spP K S__law_quadrangle) := by
  refine fnP T.F__law_quadrangle sc__law_quadrangle (fun ds Q h => by (first | (obtain ⟨_, rfl, _⟩ := h; rfl) | (obtain ⟨_, _, rfl, _⟩ := h; rfl) | (obtain ⟨_, _, _, rfl, _⟩ := h; rfl) | (obtain ⟨_, _, _, _, rfl, _⟩ := h; rfl) | (obtain ⟨_, _, _, _, _, rfl, _⟩ := h; rfl) | (obtain ⟨_, _, _, _, _, _, rfl, _⟩ := h; rfl) | (obtain ⟨_, _, _, _, _, _, _, rfl, _⟩ := h; rfl))) (fun cdv A outer s H hr => ?_)
  have hu := hr.units
  refine ⟨_, (b_cons (s_set (i := 1) sc__law_quadrangle.nd rfl (Or.inr rfl) (q_bin o_mod (q_callP (ok__law_at T) (hr.mono (by decide)) (by rfl) T.m__law_at T.F__law_at.kp (bd__law_at T) (a_cons (q_var 0) (a_cons q_int a_nil))) q_int))
      (b_cons (s_set (i := 2) sc__law_quadrangle.nd rfl (Or.inr rfl) (q_callP (ok__law_at T) (hr.mono (by decide)) (by rfl) T.m__law_at T.F__law_at.kp (bd__law_at T) (a_cons (q_var 0) (a_cons q_int a_nil))))
      (b_cons (s_asg (q_lc (q_lcR (ys := ["_law_kind", "_law_head", "_law_script"]) (fs := [1, 2, 0]) rfl (by show compChk (defScope s__law_quadrangle) ["_law_script", "_law_kind", "_law_head", "_law_a", "_law_b", "_law_c", "_law_d", "_law_p", "_law_q", "_law_r", "_law_s", "_law_wide", "_law_high"] _ _ _ _ = true; decide +kernel) (by rfl) T.no_range (a_cons q_int a_nil) (fun cl C s0 H0 ex => l_nil) (fun cl C s0 H0 ex => (q_callP (ok__law_spot T) (hr.mono (by decide)) (by rfl) T.m__law_spot T.F__law_spot.kp (bd__law_spot T) (a_cons (q_var 1) (a_cons (q_callP (ok__law_at T) (hr.mono (by decide)) (by rfl) T.m__law_at T.F__law_at.kp (bd__law_at T) (a_cons (q_var 3) (a_cons (q_bin o_add q_int (q_var 0)) a_nil))) (a_cons (q_var 2) a_nil))))))) (g_seq rfl (gs_cons (g_name (i := 3) sc__law_quadrangle.nd rfl (Or.inl rfl)) (gs_cons (g_name (i := 4) sc__law_quadrangle.nd rfl (Or.inl rfl)) (gs_cons (g_name (i := 5) sc__law_quadrangle.nd rfl (Or.inl rfl)) (gs_cons (g_name (i := 6) sc__law_quadrangle.nd rfl (Or.inl rfl)) gs_nil))))))
      (b_cons (s_forDH PassesOwn.never rfl (a_cons (q_tup (a_cons (q_var 3) (a_cons (q_var 4) (a_cons (q_var 5) (a_cons (q_var 6) a_nil))))) (a_cons (q_tup (a_cons (q_var 3) (a_cons (q_var 5) (a_cons (q_var 4) (a_cons (q_var 6) a_nil))))) (a_cons (q_tup (a_cons (q_var 3) (a_cons (q_var 6) (a_cons (q_var 4) (a_cons (q_var 5) a_nil))))) a_nil))) (g_seq rfl (gs_cons (g_name (i := 7) sc__law_quadrangle.nd rfl (Or.inl rfl)) (gs_cons (g_name (i := 8) sc__law_quadrangle.nd rfl (Or.inl rfl)) (gs_cons (g_name (i := 9) sc__law_quadrangle.nd rfl (Or.inl rfl)) (gs_cons (g_name (i := 10) sc__law_quadrangle.nd rfl (Or.inl rfl)) gs_nil))))) (b_one (s_if (PW3.pt (k_and (k_cmp (o_ltD hu) (q_bin o_mul (q_callP (ok__law_twice T) (hr.mono (by decide)) (by rfl) T.m__law_twice T.F__law_twice.kp (bd__law_twice T) (a_cons (q_var 7) (a_cons (q_var 8) (a_cons (q_var 9) a_nil)))) (q_callP (ok__law_twice T) (hr.mono (by decide)) (by rfl) T.m__law_twice T.F__law_twice.kp (bd__law_twice T) (a_cons (q_var 7) (a_cons (q_var 8) (a_cons (q_var 10) a_nil))))) q_int (nomark _)) (k_and1 (k_cmp (o_ltD hu) (q_bin o_mul (q_callP (ok__law_twice T) (hr.mono (by decide)) (by rfl) T.m__law_twice T.F__law_twice.kp (bd__law_twice T) (a_cons (q_var 9) (a_cons (q_var 10) (a_cons (q_var 7) a_nil)))) (q_callP (ok__law_twice T) (hr.mono (by decide)) (by rfl) T.m__law_twice T.F__law_twice.kp (bd__law_twice T) (a_cons (q_var 9) (a_cons (q_var 10) (a_cons (q_var 8) a_nil))))) q_int (nomark _))))) (b_one (s_ret (q_tup (a_cons (q_var 7) (a_cons (q_var 8) (a_cons (q_var 9) (a_cons (q_var 10) a_nil))))))) b_nil)))
      (b_cons (s_set (i := 11) sc__law_quadrangle.nd rfl (Or.inl rfl) (q_tup (a_cons (q_bin o_add q_int (q_bin o_mod (q_callP (ok__law_at T) (hr.mono (by decide)) (by rfl) T.m__law_at T.F__law_at.kp (bd__law_at T) (a_cons (q_var 0) (a_cons q_int a_nil))) (q_bin o_pow q_int q_int))) (a_cons (q_bin o_mod (q_callP (ok__law_at T) (hr.mono (by decide)) (by rfl) T.m__law_at T.F__law_at.kp (bd__law_at T) (a_cons (q_var 0) (a_cons q_int a_nil))) (q_bin o_pow q_int q_int)) a_nil))))
      (b_cons (s_set (i := 12) sc__law_quadrangle.nd rfl (Or.inl rfl) (q_tup (a_cons (q_bin o_sub q_int (q_bin o_mod (q_callP (ok__law_at T) (hr.mono (by decide)) (by rfl) T.m__law_at T.F__law_at.kp (bd__law_at T) (a_cons (q_var 0) (a_cons q_int a_nil))) (q_bin o_pow q_int q_int))) (a_cons (q_bin o_add q_int (q_bin o_mod (q_callP (ok__law_at T) (hr.mono (by decide)) (by rfl) T.m__law_at T.F__law_at.kp (bd__law_at T) (a_cons (q_var 0) (a_cons q_int a_nil))) (q_bin o_pow q_int q_int))) a_nil))))
      (b_cons (s_set (i := 4) sc__law_quadrangle.nd rfl (Or.inl rfl) (q_tup (a_cons (q_bin o_add (q_ix (q_var 3) q_int) (q_ix (q_var 11) q_int)) (a_cons (q_bin o_add (q_ix (q_var 3) q_int) (q_ix (q_var 11) q_int)) a_nil))))
      (b_cons (s_set (i := 6) sc__law_quadrangle.nd rfl (Or.inl rfl) (q_tup (a_cons (q_bin o_add (q_ix (q_var 3) q_int) (q_ix (q_var 12) q_int)) (a_cons (q_bin o_add (q_ix (q_var 3) q_int) (q_ix (q_var 12) q_int)) a_nil))))
      (b_one (s_ret (q_tup (a_cons (q_var 3) (a_cons (q_tup (a_cons (q_bin o_add (q_ix (q_var 4) q_int) (q_ix (q_var 12) q_int)) (a_cons (q_bin o_add (q_ix (q_var 4) q_int) (q_ix (q_var 12) q_int)) a_nil))) (a_cons (q_var 4) (a_cons (q_var 6) a_nil))))))))))))))), fun ds Q h => ?_⟩
  obtain ⟨ns, rfl, hb, hlen, h⟩ := h
  walk_at "rd"
  refine ⟨hb, hlen, fun z0 b0 => ?_⟩
  walk_at "rd"
  refine ⟨hb, hlen, fun z1 b1 => ?_⟩
  walk_at "rd"
  refine Hold.mk (runLC_inv (fun i acc M4 => M4 = noM ∧ ∃ ps : List Pl, ps.length = i ∧ (∀ p ∈ ps, p.Ok 130) ∧ acc = ps.map Pl.d) _ ?_ ?_ ⟨rfl, [], rfl, (fun p hp => by cases hp), rfl⟩)
  · rintro i d acc M4 N hx ⟨rfl, ps, hl, ho, rfl⟩ hN
    obtain ⟨hi, rfl⟩ := range_get hx
    refine ⟨trivial, ?_⟩
    walk_at "rd"
    refine ⟨hb, hlen, fun z bz => ?_⟩
    walk_at "rd"
    refine ⟨by dsimp only; omega, bz, fun p op => ?_⟩
    refine hN _ _ ⟨rfl, ps ++ [p], by simp [hl], ?_, by simp⟩
    intro q hq
    rcases List.mem_append.mp hq with hq | hq
    · exact ho q hq
    · rw [List.mem_singleton.mp hq]; exact op
  rintro acc M4 ⟨rfl, ps, hl, ho, rfl⟩
  refine ⟨trivial, fun r hr => ?_⟩
  obtain ⟨a, b, c, d, rfl⟩ := four_of (show ps.length = 4 by simpa using hl)
  clear hl
  have lift : ∀ p : Pl, p.Ok 130 → p.Ok 140 := fun p hp => ⟨hp.1.le (by decide), hp.2.le (by decide)⟩
  have qa := ho a (by simp)
  have oa := lift a qa
  have ob := lift b (ho b (by simp))
  have oc := lift c (ho c (by simp))
  have od := lift d (ho d (by simp))
  refine ⟨_, .inr ⟨r, rfl, updM_same⟩, rfl, ?_⟩
  walk_at "rd"
  refine Hold.mk (runFor_inv (fun i ρ M' => ∃ y1 y2 y3 y4 : Option L3.D, ρ = [some (.frl (ns.map L3.D.int)), some (.int (z0 % 8)), some (.int z1), some a.d, some b.d, some c.d, some d.d, y1, y2, y3, y4, none, none]) _ ?_ ?_ ⟨_, _, _, _, rfl⟩)
  · rintro i x ρ M' N hx ⟨y1, y2, y3, y4, rfl⟩ hN
    obtain ⟨p, q, u, v, rfl, op, oq, ou, ov⟩ : ∃ p q u v : Pl, x = .tup [p.d, q.d, u.d, v.d] ∧ p.Ok 140 ∧ q.Ok 140 ∧ u.Ok 140 ∧ v.Ok 140 := by
      match i, hx with
      | 0, e => exact ⟨a, b, c, d, (Option.some.inj e).symm, oa, ob, oc, od⟩
      | 1, e => exact ⟨a, c, b, d, (Option.some.inj e).symm, oa, oc, ob, od⟩
      | 2, e => exact ⟨a, d, b, c, (Option.some.inj e).symm, oa, od, ob, oc⟩
    have t1 := tw_sm op oq ou
    have t2 := tw_sm op oq ov
    have t3 := tw_sm ou ov op
    have t4 := tw_sm ou ov oq
    refine ⟨trivial, ?_⟩
    walk_at "rd"
    refine ⟨op, oq, ou, ?_⟩
    walk_at "rd"
    refine ⟨op, oq, ov, ?_⟩
    walk_at "rd"
    refine ite2 (fun k => ?_) (fun k => ?_)
    · have k : tw p q u * tw p q v < 0 := of_decide_eq_true k
      walk_at "rd"
      refine ⟨ou, ov, op, ?_⟩
      walk_at "rd"
      refine ⟨ou, ov, oq, ?_⟩
      walk_at "rd"
      refine ite2 (fun k2 => ?_) (fun k2 => ?_)
      · have k2 : tw u v p * tw u v q < 0 := of_decide_eq_true k2
        walk_at "rd"
        exact h p q u v op oq ou ov (Quad2.of k k2)
      · exact hN _ _ ⟨_, _, _, _, rfl⟩
    · refine iteF ?_
      exact hN _ _ ⟨_, _, _, _, rfl⟩
  rintro ρ M' ⟨y1, y2, y3, y4, rfl⟩
  refine ⟨trivial, ?_⟩
  walk_at "rd"
  refine ⟨hb, hlen, fun z6 _ => ?_⟩
  walk_at "rd"
  refine ⟨hb, hlen, fun z7 _ => ?_⟩
  walk_at "rd"
  refine ⟨hb, hlen, fun z8 _ => ?_⟩
  walk_at "rd"
  refine ⟨hb, hlen, fun z9 _ => ?_⟩
  walk_at "rd"
  obtain ⟨a1, a2⟩ := qa
  have m6 : 0 ≤ z6 % 10 ^ (30 : Int).toNat := Int.emod_nonneg _ (by decide +kernel)
  have m7 : 0 ≤ z7 % 10 ^ (20 : Int).toNat := Int.emod_nonneg _ (by decide +kernel)
  have m8 : 0 ≤ z8 % 10 ^ (20 : Int).toNat := Int.emod_nonneg _ (by decide +kernel)
  have m9 : 0 ≤ z9 % 10 ^ (30 : Int).toNat := Int.emod_nonneg _ (by decide +kernel)
  refine h a ⟨a.x + (1 + z6 % 10 ^ (30 : Int).toNat) + (0 - z8 % 10 ^ (20 : Int).toNat), a.y + z7 % 10 ^ (20 : Int).toNat + (1 + z9 % 10 ^ (30 : Int).toNat)⟩ ⟨a.x + (1 + z6 % 10 ^ (30 : Int).toNat), a.y + z7 % 10 ^ (20 : Int).toNat⟩ ⟨a.x + (0 - z8 % 10 ^ (20 : Int).toNat), a.y + (1 + z9 % 10 ^ (30 : Int).toNat)⟩ oa ⟨?_, ?_⟩ ⟨?_, ?_⟩ ⟨?_, ?_⟩ (Quad2.par (by omega) m7 (by omega) (by omega))
  all_goals (dsimp only; walk_at "smle")
theorem bd__law_measure (T : Txt K mg t) : Binds K t.fd__law_measure ["_law_places", "_law_cover"] [] := T.F__law_measure.binds fun _ _ _ _ _ _ us hl => match us, hl with | [_, _], _ => rfl
def S__law_measure : Sp3 := fun ds M Q => ∃ (l c : Addr) (ps : List Pl) (ts : List (List Pl)), ds = [.ref l, .ref c] ∧ M l = some (.lst (ps.map Pl.d)) ∧ M c = some (.lst (ts.map tD)) ∧ ps.length < 64 ∧ ps.Nodup ∧ (∀ t ∈ ts, TriOk t ∧ ∀ p ∈ t, p ∈ ps) ∧ ts.length ≤ 1000 ∧
  ∀ (p : Addr) (qs : List Pl), M p = none → qs.Perm ps → qs.Pairwise (fun a b => ¬ bef b a) → Q (.ref p) (updM M p (.lst (vec (allA ts) (allB ts) qs)))
theorem zeros_vec : ∀ (qs : List Pl), List.replicate (1 + qs.length) (L3.D.int 0) = vec 0 (fun _ => 0) qs := fun qs => by
  unfold vec
  rw [Nat.add_comm, List.replicate_succ]
  congr 1
  induction qs with
  | nil => rfl
  | cons q qs ih => rw [List.length_cons, List.replicate_succ, List.map_cons, ih]
theorem fold_take {α β : Type} {f : β → α → β} {xs : List α} {i : Nat} {x : α} {z : β} (h : xs[i]? = some x) : (xs.take (i + 1)).foldl f z = f ((xs.take i).foldl f z) x := by
  rw [List.take_succ, h, List.foldl_append]
  rfl
theorem ix_small {n j : Nat} (h : j < n) : ixN n (j : Int) = some j := by
  unfold ixN
  rw [if_pos (by omega)]
  first
    | rfl
    | (rw [if_pos (by omega)]; simp)
    | simp [h]
theorem index_first {qs : List Pl} {j : Nat} {p : Pl} (nd : qs.Nodup) (h : qs[j]? = some p) : (qs.map Pl.d)[j]? = some p.d ∧ ∀ m e', m < j → (qs.map Pl.d)[m]? = some e' → eqD e' p.d = false := by
  refine ⟨by rw [List.getElem?_map, h]; rfl, fun m e' hm he => ?_⟩
  obtain ⟨q, hq, rfl⟩ := pls_at he
  rw [eqD_Pl]
  refine decide_eq_false fun z => ?_
  subst z
  have := (List.getElem?_inj (List.getElem?_eq_some_iff.mp hq).1 nd).mp (hq.trans h.symm)
  omega
theorem ok__law_measure (T : Txt K mg t) : FnOk P w K mg base CX0 2 t.f__law_measure t.fd__law_measure ["_law_places", "_law_cover"] (sp3 K S__law_measure) := by
  refine fn3 T.F__law_measure sc__law_measure (fun ds M Q h => by (first | (obtain ⟨_, rfl, _⟩ := h; rfl) | (obtain ⟨_, _, rfl, _⟩ := h; rfl) | (obtain ⟨_, _, _, rfl, _⟩ := h; rfl) | (obtain ⟨_, _, _, _, rfl, _⟩ := h; rfl) | (obtain ⟨_, _, _, _, _, rfl, _⟩ := h; rfl) | (obtain ⟨_, _, _, _, _, _, rfl, _⟩ := h; rfl) | (obtain ⟨_, _, _, _, _, _, _, rfl, _⟩ := h; rfl))) (fun cdv A outer s H hr => ?_)
  have hu := hr.units
  refine ⟨_, (b_cons (s_set (i := 2) sc__law_measure.nd rfl (Or.inl rfl) (q_blt c_sorted (by rfl) T.no_sorted boot3_sorted (a_cons (q_var 0) a_nil)))
      (b_cons (s_lc (j := 3) (q_lcR (ys := []) (fs := []) rfl (by show compChk (defScope s__law_measure) ["_law_places", "_law_cover", "_law_some", "_law_due", "_law_t", "_law_wide", "_law_p"] _ _ _ _ = true; decide +kernel) (by rfl) T.no_range (a_cons (q_bin o_add q_int (q_blt c_len (by rfl) T.no_len boot3_len (a_cons (q_var 2) a_nil))) a_nil) (fun cl C s0 H0 ex => l_nil) (fun cl C s0 H0 ex => q_int)) sc__law_measure.nd rfl (Or.inl rfl))
      (b_cons (s_forL PassesOwn.never rfl (q_var 1) (g_name (i := 4) sc__law_measure.nd rfl (Or.inl rfl)) (b_cons (s_set (i := 5) sc__law_measure.nd rfl (Or.inl rfl) (q_callP (ok__law_twice T) (hr.mono (by decide)) (by rfl) T.m__law_twice T.F__law_twice.kp (bd__law_twice T) (a_cons (q_ix (q_var 4) q_int) (a_cons (q_ix (q_var 4) q_int) (a_cons (q_ix (q_var 4) q_int) a_nil)))))
      (b_one (s_forT PassesOwn.never rfl (q_var 4) (g_name (i := 6) sc__law_measure.nd rfl (Or.inl rfl)) (b_cons (s_asg (q_bin o_add (q_ix (q_var 3) q_int) (q_bin o_mul (q_var 5) (q_bin o_add (q_bin o_mul (q_ix (q_var 6) q_int) (q_ix (q_var 6) q_int)) (q_bin o_mul (q_ix (q_var 6) q_int) (q_ix (q_var 6) q_int))))) (g_sub (q_var 3) q_int))
      (b_one (s_asg (q_bin o_sub (q_ix (q_var 3) (q_bin o_add q_int (q_index (q_var 2) (q_var 6) (pe_bm PySem.F.plainAttrs_list PySem.F.slot_list_index PySem.F.type_list_index (mt_index hu) (PE3.dn (q_var 2)) (pa_cons (PE3.dn (q_var 6)) pa_nil))))) (q_var 5)) (g_sub (q_var 3) (q_bin o_add q_int (q_index (q_var 2) (q_var 6) (pe_bm PySem.F.plainAttrs_list PySem.F.slot_list_index PySem.F.type_list_index (mt_index hu) (PE3.dn (q_var 2)) (pa_cons (PE3.dn (q_var 6)) pa_nil))))))))))))
      (b_one (s_ret (q_var 3)))))), fun ds M Q h => ?_⟩
  obtain ⟨l, c, ps, ts, rfl, hM, hC, hps, nd, ho, hlen, h⟩ := h
  walk_at "rd"
  refine ⟨l, ps, rfl, hM, hps, fun s qs hs hperm hsort => ?_⟩
  have nq : qs.Nodup := hperm.nodup_iff.mpr nd
  have lq : qs.length = ps.length := hperm.length_eq
  walk_at "rd"
  refine ⟨_, _, rfl, .inr (.inr ⟨s, rfl, updM_same⟩), ?_⟩
  rw [List.length_map]
  walk_at "rd"
  refine ⟨by dsimp only; omega, by dsimp only; omega, by have : (1000 : Nat) < sizeLine := by decide
                                                         dsimp only; omega, Hold.mk (runLC_inv (fun i acc M4 => M4 = updM M s (.lst (qs.map Pl.d)) ∧ acc = List.replicate i (.int 0)) _ ?_ ?_ ⟨rfl, rfl⟩)⟩
  · rintro i d acc M4 N hx ⟨rfl, rfl⟩ hN
    refine ⟨trivial, ?_⟩
    walk_at "rd"
    refine hN _ _ ⟨rfl, ?_⟩
    rw [List.replicate_succ', ]
  rintro acc M4 ⟨rfl, rfl⟩
  refine ⟨trivial, fun u hu' => ?_⟩
  rw [List.length_map, List.length_range]
  have en : ((fun i j : Int => i + j) 1 (qs.length : Int)).toNat = 1 + qs.length := by dsimp only; omega
  rw [en, zeros_vec]
  have nu : ∀ a o, updM M s (.lst (qs.map Pl.d)) a = some o → a ≠ u := fun a o ea z => by rw [z, hu'] at ea; cases ea
  have su : s ≠ u := nu s _ updM_same
  have cu : c ≠ u := nu c _ (updM_old hC hs)
  have hun : M u = none := by
    cases e : M u with
    | none => rfl
    | some o => exact absurd rfl (nu u o (updM_old e hs))
  have le1 : Le M (updM M s (.lst (qs.map Pl.d))) := Le.new hs
  walk_at "rd"
  refine ⟨c, _, rfl, by rw [updM_ne cu]; exact le1 _ _ hC, ?_⟩
  refine runFor_inv (fun i ρ M' => (∀ a o, M a = some o → M' a = some o) ∧ M' s = some (.lst (qs.map Pl.d)) ∧ M' u = some (.lst (vec ((ts.take i).foldl addT 0) ((ts.take i).foldl takeT (fun _ => 0)) qs)) ∧ ∃ y1 y2 y3 : Option L3.D, ρ = [some (.ref l), some (.ref c), some (.ref s), some (.ref u), y1, y2, y3]) _ ?_ ?_ ⟨fun a o e => ?_, ?_, updM_same, _, _, _, rfl⟩
  · rintro i x ρ M' N hx ⟨k1, k2, k3, y1, y2, y3, rfl⟩ hN
    obtain ⟨t, ht, rfl⟩ := trs_at hx
    obtain ⟨⟨a, b, d, et, oa, ob, od⟩, hmem⟩ := ho t (List.mem_of_getElem? ht)
    refine ⟨k1 _ _ hC, ?_⟩
    have ot : ∀ p ∈ t, p.Ok 140 := fun p hp => by
      rw [et] at hp
      simp only [List.mem_cons, List.not_mem_nil, or_false] at hp
      rcases hp with rfl | rfl | rfl
      · exact oa
      · exact ob
      · exact od
    have sw := tw_sm oa ob od
    have ew : twT t = tw a b d := by rw [et]; rfl
    subst et
    refine ⟨_, rfl, ?_⟩
    refine ⟨_, _, _, Or.inl rfl, rfl, rfl, ?_⟩
    refine ⟨_, rfl, ?_⟩
    refine ⟨_, _, _, Or.inl rfl, rfl, rfl, ?_⟩
    refine ⟨_, rfl, ?_⟩
    refine ⟨_, _, _, Or.inl rfl, rfl, rfl, ?_⟩
    refine ⟨a, b, d, rfl, oa, ob, od, ?_⟩
    refine ⟨_, rfl, ?_⟩
    refine ⟨_, rfl, ?_⟩
    have cont : ∀ ρ2 M2, (∀ a o, M a = some o → M2 a = some o) → M2 s = some (.lst (qs.map Pl.d)) → M2 u = some (.lst (vec ((ts.take (i + 1)).foldl addT 0) ((ts.take (i + 1)).foldl takeT (fun _ => 0)) qs)) → (∃ y1 y2 y3 : Option L3.D, ρ2 = [some (.ref l), some (.ref c), some (.ref s), some (.ref u), y1, y2, y3]) → N ρ2 M2 := fun ρ2 M2 e1 e2 e3 e4 => hN _ _ ⟨e1, e2, e3, e4⟩
    rw [fold_take ht, fold_take ht] at cont
    clear hN
    generalize (ts.take i).foldl addT 0 = A0 at k3 cont
    generalize (ts.take i).foldl takeT (fun _ => 0) = B0 at k3 cont
    refine runFor_inv (fun j ρ M2 => (∀ a o, M a = some o → M2 a = some o) ∧ M2 s = some (.lst (qs.map Pl.d)) ∧ M2 u = some (.lst (vec (([a, b, d].take j).foldl (fun A p => A + tw a b d * sqP p) A0) (([a, b, d].take j).foldl (fun B p => minus B p (tw a b d)) B0) qs)) ∧ ∃ y3 : Option L3.D, ρ = [some (.ref l), some (.ref c), some (.ref s), some (.ref u), some (tD [a, b, d]), some (.int (tw a b d)), y3]) _ ?_ ?_ ⟨k1, k2, k3, _, rfl⟩
    · rintro j x ρ M2 N2 hx ⟨k1, k2, k3, y3, rfl⟩ hN2
      obtain ⟨p, hp, rfl⟩ := pls_at hx
      have mp : p ∈ [a, b, d] := List.mem_of_getElem? hp
      obtain ⟨p1, p2⟩ := ot p mp
      obtain ⟨m, hm⟩ : ∃ m : Nat, qs[m]? = some p := List.mem_iff_getElem?.mp (hperm.mem_iff.mpr (hmem p mp))
      have hml : m < qs.length := (List.getElem?_eq_some_iff.mp hm).1
      obtain ⟨i1, i2⟩ := index_first nq hm
      have go2 : ∀ ρ2 M3, (∀ a o, M a = some o → M3 a = some o) → M3 s = some (.lst (qs.map Pl.d)) → M3 u = some (.lst (vec (([a, b, d].take (j + 1)).foldl (fun A p => A + tw a b d * sqP p) A0) (([a, b, d].take (j + 1)).foldl (fun B p => minus B p (tw a b d)) B0) qs)) → (∃ y3 : Option L3.D, ρ2 = [some (.ref l), some (.ref c), some (.ref s), some (.ref u), some (tD [a, b, d]), some (.int (tw a b d)), y3]) → N2 ρ2 M3 := fun ρ2 M3 e1 e2 e3 e4 => hN2 _ _ ⟨e1, e2, e3, e4⟩
      rw [fold_take hp, fold_take hp] at go2
      clear hN2
      generalize ([a, b, d].take j).foldl (fun A p => A + tw a b d * sqP p) A0 = A1 at k3 go2
      generalize ([a, b, d].take j).foldl (fun B p => minus B p (tw a b d)) B0 = B1 at k3 go2
      have lv : ∀ (A : Int) (B : Pl → Int), (vec A B qs).length = qs.length + 1 := fun A B => by simp [vec]
      have eix : ((fun i j : Int => i + j) 1 ((m : Nat) : Int)) = ((m + 1 : Nat) : Int) := by dsimp only; omega
      refine ⟨trivial, ?_⟩
      walk_at "rd"
      refine ⟨_, _, _, .inr (.inr ⟨u, rfl, k3⟩), rfl, atI_nat (j := 0) rfl, ?_⟩
      walk_at "rd"
      refine ⟨u, _, _, 0, rfl, rfl, k3, ix_small (j := 0) (by rw [lv]; omega), ?_⟩
      rw [vec_set0]
      dsimp only
      have k3' := updM_same (M := M2) (a := u) (o := MO.lst (vec (A1 + tw a b d * (p.x * p.x + p.y * p.y)) B1 qs))
      have k2' : updM M2 u (.lst (vec (A1 + tw a b d * (p.x * p.x + p.y * p.y)) B1 qs)) s = some (.lst (qs.map Pl.d)) := by rw [updM_ne su]; exact k2
      have k1' : ∀ x o, M x = some o → updM M2 u (.lst (vec (A1 + tw a b d * (p.x * p.x + p.y * p.y)) B1 qs)) x = some o := fun x o e => by rw [updM_ne (fun z => by rw [z, hun] at e; cases e)]; exact k1 _ _ e
      generalize updM M2 u (.lst (vec (A1 + tw a b d * (p.x * p.x + p.y * p.y)) B1 qs)) = M3 at k1' k2' k3' ⊢
      walk_at "rd"
      refine ⟨⟨s, _, rfl, k2'⟩, ?_⟩
      walk_at "rd"
      refine ⟨s, _, m, rfl, k2', rfl, plain_pls qs, i1, i2, ?_⟩
      walk_at "rd"
      rw [eix]
      refine ⟨_, _, _, .inr (.inr ⟨u, rfl, k3'⟩), rfl, atI_nat (vec_at hm), ?_⟩
      walk_at "rd"
      refine ⟨⟨s, _, rfl, k2'⟩, ?_⟩
      walk_at "rd"
      refine ⟨s, _, m, rfl, k2', rfl, plain_pls qs, i1, i2, ?_⟩
      walk_at "rd"
      rw [eix]
      refine ⟨u, _, _, m + 1, rfl, rfl, k3', ix_small (by rw [lv]; omega), ?_⟩
      refine go2 _ _ (fun x o e => ?_) ?_ ?_ ⟨_, rfl⟩
      · rw [updM_ne (fun z => by rw [z, hun] at e; cases e)]
        exact k1' _ _ e
      · rw [updM_ne su]
        exact k2'
      · rw [updM_same]
        exact congrArg (fun v => some (MO.lst v)) (vec_setS nq hm)
    · rintro ρ M2 ⟨k1, k2, k3, y3, rfl⟩
      exact ⟨trivial, cont _ _ k1 k2 (by rw [List.length_map, List.take_length] at k3; exact k3) ⟨_, _, _, rfl⟩⟩
  · rintro ρ M' ⟨k1, k2, k3, y1, y2, y3, rfl⟩
    refine ⟨k1 _ _ hC, ?_⟩
    walk_at "rd"
    rw [List.length_map, List.take_length] at k3
    refine Hold.mk ⟨updM M u (.lst (vec (allA ts) (allB ts) qs)), fun a o e => ?_, h u qs hun hperm hsort⟩
    by_cases ha : a = u
    · subst ha
      rw [updM_same] at e
      rw [k3]
      exact e
    · rw [updM_ne ha] at e
      exact k1 _ _ e
  · rw [updM_ne (nu a o (le1 _ _ e))]
    exact le1 _ _ e
  · rw [updM_ne su]
    exact updM_same
theorem bd__law_int (T : Txt K mg t) : Binds K t.fd__law_int ["_law_one"] [] := T.F__law_int.binds fun _ _ _ _ _ _ us hl => match us, hl with | [_], _ => rfl
def S__law_int : SpP := fun ds Q => ∃ i : Int, ds = [.int i] ∧ Q (.bl true)
theorem ok__law_int (T : Txt K mg t) : FnOk P w K mg base CX0 1 t.f__law_int t.fd__law_int ["_law_one"] (spP K S__law_int) := by
  refine fnP T.F__law_int sc__law_int (fun ds Q h => by (first | (obtain ⟨_, rfl, _⟩ := h; rfl) | (obtain ⟨_, _, rfl, _⟩ := h; rfl) | (obtain ⟨_, _, _, rfl, _⟩ := h; rfl) | (obtain ⟨_, _, _, _, rfl, _⟩ := h; rfl) | (obtain ⟨_, _, _, _, _, rfl, _⟩ := h; rfl) | (obtain ⟨_, _, _, _, _, _, rfl, _⟩ := h; rfl) | (obtain ⟨_, _, _, _, _, _, _, rfl, _⟩ := h; rfl))) (fun cdv A outer s H hr => ?_)
  have hu := hr.units
  refine ⟨_, (b_one (s_ret (q_and (q_blt c_isT (by rfl) T.no_isinstance boot3_isinstance (a_cons (q_var 0) (a_cons (q_type (by rfl) T.no_int boot3_int) a_nil))) (q_and (q_cmp o_isNotB (q_var 0) q_bl (nomark _)) (q_one (q_cmp o_isNotB (q_var 0) q_bl (nomark _))))))), fun ds Q h => ?_⟩
  obtain ⟨i, rfl, h⟩ := h
  walk_at "rd"
  exact h
theorem bd__law_places_of (T : Txt K mg t) : Binds K t.fd__law_places_of ["_law_found", "_law_many"] [] := T.F__law_places_of.binds fun _ _ _ _ _ _ us hl => match us, hl with | [_, _], _ => rfl
def S__law_places_of : SpP := fun ds Q => ∃ (ps : List Pl) (k : Int), ds = [tD ps, .int k] ∧ ((k = 2 ∧ ps.length = 2) ∨ (k = 3 ∧ ps.length = 3)) ∧ Q (.bl true)
theorem ok__law_places_of (T : Txt K mg t) : FnOk P w K mg base CX0 2 t.f__law_places_of t.fd__law_places_of ["_law_found", "_law_many"] (spP K S__law_places_of) := by
  refine fnP T.F__law_places_of sc__law_places_of (fun ds Q h => by (first | (obtain ⟨_, rfl, _⟩ := h; rfl) | (obtain ⟨_, _, rfl, _⟩ := h; rfl) | (obtain ⟨_, _, _, rfl, _⟩ := h; rfl) | (obtain ⟨_, _, _, _, rfl, _⟩ := h; rfl) | (obtain ⟨_, _, _, _, _, rfl, _⟩ := h; rfl) | (obtain ⟨_, _, _, _, _, _, rfl, _⟩ := h; rfl) | (obtain ⟨_, _, _, _, _, _, _, rfl, _⟩ := h; rfl))) (fun cdv A outer s H hr => ?_)
  have hu := hr.units
  refine ⟨_, (b_cons (s_if (PW3.pt (k_or (k_not (k_val (q_blt c_isT (by rfl) T.no_isinstance boot3_isinstance (a_cons (q_var 0) (a_cons (q_type (by rfl) T.no_tuple boot3_tuple) a_nil))))) (k_or1 (k_cmp (o_ne hu) (q_blt c_len (by rfl) T.no_len boot3_len (a_cons (q_var 0) a_nil)) (q_var 1) (nomark _))))) (b_one (s_ret q_bl)) b_nil)
      (b_cons (s_forT PassesOwn.never rfl (q_var 0) (g_name (i := 2) sc__law_places_of.nd rfl (Or.inl rfl)) (b_one (s_if (PW3.pt (k_or (k_not (k_val (q_blt c_isT (by rfl) T.no_isinstance boot3_isinstance (a_cons (q_var 2) (a_cons (q_type (by rfl) T.no_tuple boot3_tuple) a_nil))))) (k_or (k_cmp (o_ne hu) (q_blt c_len (by rfl) T.no_len boot3_len (a_cons (q_var 2) a_nil)) q_int (nomark _)) (k_or (k_not (k_val (q_callP (ok__law_int T) (hr.mono (by decide)) (by rfl) T.m__law_int T.F__law_int.kp (bd__law_int T) (a_cons (q_ix (q_var 2) q_int) a_nil)))) (k_or1 (k_not (k_val (q_callP (ok__law_int T) (hr.mono (by decide)) (by rfl) T.m__law_int T.F__law_int.kp (bd__law_int T) (a_cons (q_ix (q_var 2) q_int) a_nil))))))))) (b_one (s_ret q_bl)) b_nil)))
      (b_one (s_ret q_bl)))), fun ds Q h => ?_⟩
  obtain ⟨ps, k, rfl, hk, h⟩ := h
  rcases hk with ⟨rfl, hl⟩ | ⟨rfl, hl⟩
  · obtain ⟨a, b, rfl⟩ := two_of hl
    walk_at "rd"
    exact h
  · obtain ⟨a, b, c, rfl⟩ := three_of hl
    walk_at "rd"
    exact h
theorem bd__law_rows (T : Txt K mg t) : Binds K t.fd__law_rows ["_law_found", "_law_due", "_law_many"] [] := T.F__law_rows.binds fun _ _ _ _ _ _ us hl => match us, hl with | [_, _, _], _ => rfl
def S__law_rows : Sp3 := fun ds M Q => ∃ (l c : Addr) (k : Int) (ts : List (List Pl)), ds = [.ref l, .ref c, .int k] ∧ M l = some (.lst (ts.map tD)) ∧ M c = some (.lst (ts.map tD)) ∧ (∀ t ∈ ts, (k = 2 ∧ t.length = 2) ∨ (k = 3 ∧ t.length = 3)) ∧ ts.length ≤ 1000 ∧ Q (.bl true) M
theorem ok__law_rows (T : Txt K mg t) : FnOk P w K mg base CX0 3 t.f__law_rows t.fd__law_rows ["_law_found", "_law_due", "_law_many"] (sp3 K S__law_rows) := by
  refine fn3 T.F__law_rows sc__law_rows (fun ds M Q h => by (first | (obtain ⟨_, rfl, _⟩ := h; rfl) | (obtain ⟨_, _, rfl, _⟩ := h; rfl) | (obtain ⟨_, _, _, rfl, _⟩ := h; rfl) | (obtain ⟨_, _, _, _, rfl, _⟩ := h; rfl) | (obtain ⟨_, _, _, _, _, rfl, _⟩ := h; rfl) | (obtain ⟨_, _, _, _, _, _, rfl, _⟩ := h; rfl) | (obtain ⟨_, _, _, _, _, _, _, rfl, _⟩ := h; rfl))) (fun cdv A outer s H hr => ?_)
  have hu := hr.units
  refine ⟨_, (b_cons (s_if (PW3.pt (k_or (k_not (k_val (q_blt c_isT (by rfl) T.no_isinstance boot3_isinstance (a_cons (q_var 0) (a_cons (q_type (by rfl) T.no_list boot3_list) a_nil))))) (k_or1 (k_cmp (o_ne hu) (q_blt c_len (by rfl) T.no_len boot3_len (a_cons (q_var 0) a_nil)) (q_blt c_len (by rfl) T.no_len boot3_len (a_cons (q_var 1) a_nil)) (nomark _))))) (b_one (s_ret q_bl)) b_nil)
      (b_cons (s_forR PassesOwn.never rfl (by rfl) T.no_range (a_cons (q_blt c_len (by rfl) T.no_len boot3_len (a_cons (q_var 1) a_nil)) a_nil) (g_name (i := 3) sc__law_rows.nd rfl (Or.inl rfl)) (b_one (s_if (PW3.pt (k_or (k_not (k_val (q_callP (ok__law_places_of T) (hr.mono (by decide)) (by rfl) T.m__law_places_of T.F__law_places_of.kp (bd__law_places_of T) (a_cons (q_ix (q_var 0) (q_var 3)) (a_cons (q_var 2) a_nil))))) (k_or1 (k_cmp (o_ne hu) (q_ix (q_var 0) (q_var 3)) (q_ix (q_var 1) (q_var 3)) (nomark _))))) (b_one (s_ret q_bl)) b_nil)))
      (b_one (s_ret q_bl)))), fun ds M Q h => ?_⟩
  obtain ⟨l, c, k, ts, rfl, hM, hC, hk, lts, h⟩ := h
  walk_at "rd"
  refine ⟨_, _, _, true, rfl, .lst hM, kit_same, ?_⟩
  walk_at "rd"
  refine ⟨_, _, rfl, .inr (.inr ⟨l, rfl, hM⟩), ?_⟩
  walk_at "rd"
  refine ⟨_, _, rfl, .inr (.inr ⟨c, rfl, hC⟩), ?_⟩
  walk_at "rd"
  have e : ∀ n : Int, eqD (.int n) (.int n) = true := fun n => by rw [eqD_int]; simp
  rw [e]
  refine iteF ?_
  walk_at "rd"
  refine ⟨_, _, rfl, .inr (.inr ⟨c, rfl, hC⟩), ?_⟩
  walk_at "rd"
  rw [List.length_map]
  refine ⟨by omega, by omega, ?_⟩
  rw [Int.toNat_natCast]
  refine runFor_inv (fun i ρ M' => M' = M ∧ ∃ y : Option L3.D, ρ = [some (.ref l), some (.ref c), some (.int k), y]) _ ?_ ?_ ⟨rfl, _, rfl⟩
  · rintro i x ρ M' N hx ⟨rfl, y, rfl⟩ hN
    obtain ⟨hi, rfl⟩ := range_get hx
    have hg : ts[i]? = some ts[i] := List.getElem?_eq_getElem hi
    have hk' := hk ts[i] (List.getElem_mem hi)
    have at' : atI (ts.map tD) (i : Int) = some (tD ts[i]) := atI_nat (by rw [List.getElem?_map, hg]; rfl)
    have pl : L3.plain 9 (tD ts[i]) = true := by
      have := plain_tD ts
      rw [List.all_eq_true] at this
      exact this _ (List.mem_map_of_mem (List.getElem_mem hi))
    refine ⟨trivial, ?_⟩
    walk_at "rd"
    refine ⟨_, _, _, .inr (.inr ⟨l, rfl, hM⟩), rfl, at', ?_⟩
    walk_at "rd"
    refine ⟨hk', ?_⟩
    walk_at "rd"
    refine ⟨_, _, _, .inr (.inr ⟨l, rfl, hM⟩), rfl, at', ?_⟩
    walk_at "rd"
    refine ⟨_, _, _, .inr (.inr ⟨c, rfl, hC⟩), rfl, at', ?_⟩
    walk_at "rd"
    refine ⟨okEq_tD _, ?_⟩
    rw [eqD_refl 9 _ pl]
    walk_at "rd"
    exact hN _ _ ⟨rfl, _, rfl⟩
  · rintro ρ M' ⟨rfl, y, rfl⟩
    refine ⟨trivial, ?_⟩
    walk_at "rd"
    exact Hold.mk ⟨_, Le.refl _, h⟩
theorem bd__law_triangle (T : Txt K mg t) : Binds K t.fd__law_triangle ["_law_a", "_law_b", "_law_c"] [] := T.F__law_triangle.binds fun _ _ _ _ _ _ us hl => match us, hl with | [_, _, _], _ => rfl
def S__law_triangle : SpP := fun ds Q => ∃ a b c : Pl, ds = [a.d, b.d, c.d] ∧ a.Ok 140 ∧ b.Ok 140 ∧ c.Ok 140 ∧ tw a b c ≠ 0 ∧ Q (tD (trg a b c))
theorem ok__law_triangle (T : Txt K mg t) : FnOk P w K mg base CX0 2 t.f__law_triangle t.fd__law_triangle ["_law_a", "_law_b", "_law_c"] (spP K S__law_triangle) := by
  refine fnP T.F__law_triangle sc__law_triangle (fun ds Q h => by (first | (obtain ⟨_, rfl, _⟩ := h; rfl) | (obtain ⟨_, _, rfl, _⟩ := h; rfl) | (obtain ⟨_, _, _, rfl, _⟩ := h; rfl) | (obtain ⟨_, _, _, _, rfl, _⟩ := h; rfl) | (obtain ⟨_, _, _, _, _, rfl, _⟩ := h; rfl) | (obtain ⟨_, _, _, _, _, _, rfl, _⟩ := h; rfl) | (obtain ⟨_, _, _, _, _, _, _, rfl, _⟩ := h; rfl))) (fun cdv A outer s H hr => ?_)
  have hu := hr.units
  refine ⟨_, (b_cons (s_set (i := 3) sc__law_triangle.nd rfl (Or.inl rfl) (q_blt c_sorted (by rfl) T.no_sorted boot3_sorted (a_cons (q_lst (a_cons (q_var 0) (a_cons (q_var 1) (a_cons (q_var 2) a_nil)))) a_nil)))
      (b_cons (s_if (k_cmp o_gt (q_callP (ok__law_twice T) (hr.mono (by decide)) (by rfl) T.m__law_twice T.F__law_twice.kp (bd__law_twice T) (a_cons (q_ix (q_var 3) q_int) (a_cons (q_ix (q_var 3) q_int) (a_cons (q_ix (q_var 3) q_int) a_nil)))) q_int (nomark _)) (b_one (s_ret (q_typ c_tuple (by rfl) T.no_tuple boot3_tuple (a_cons (q_var 3) a_nil)))) b_nil)
      (b_one (s_ret (q_tup (a_cons (q_ix (q_var 3) q_int) (a_cons (q_ix (q_var 3) q_int) (a_cons (q_ix (q_var 3) q_int) a_nil)))))))), fun ds Q h => ?_⟩
  obtain ⟨a, b, c, rfl, ha, hb, hc, hn, h⟩ := h
  walk_at "rd"
  intro l hl
  refine ⟨l, [a, b, c], rfl, updM_same, by show 3 < 64; decide, fun p qs hp hperm hsort => ?_⟩
  obtain ⟨u, v, w, rfl⟩ := three_of hperm.length_eq
  obtain ⟨ou, ov, ow⟩ := ok_perm3 hperm ha hb hc
  rw [trg_sorted hn hperm hsort] at h
  walk_at "rd"
  refine ⟨_, _, _, .inr (.inr ⟨p, rfl, updM_same⟩), rfl, rfl, ?_⟩
  walk_at "rd"
  refine ⟨_, _, _, .inr (.inr ⟨p, rfl, updM_same⟩), rfl, rfl, ?_⟩
  walk_at "rd"
  refine ⟨_, _, _, .inr (.inr ⟨p, rfl, updM_same⟩), rfl, rfl, ?_⟩
  walk_at "rd"
  refine ⟨ou, ov, ow, ?_⟩
  walk_at "rd"
  refine ite2 (fun k => ?_) (fun k => ?_)
  · rw [if_pos (of_decide_eq_true k)] at h
    walk_at "rd"
    refine ⟨_, _, rfl, .of updM_same, ?_⟩
    exact h
  · rw [if_neg (fun z => k (decide_eq_true z))] at h
    walk_at "rd"
    refine ⟨_, _, _, .inr (.inr ⟨p, rfl, updM_same⟩), rfl, rfl, ?_⟩
    walk_at "rd"
    refine ⟨_, _, _, .inr (.inr ⟨p, rfl, updM_same⟩), rfl, rfl, ?_⟩
    walk_at "rd"
    refine ⟨_, _, _, .inr (.inr ⟨p, rfl, updM_same⟩), rfl, rfl, ?_⟩
    walk_at "rd"
    exact h
theorem bd_rounds (T : Txt K mg t) : Binds K t.fd_rounds ["t"] [] := T.F_rounds.binds fun _ _ _ _ _ _ us hl => match us, hl with | [_], _ => rfl
def S_rounds : Sp3 := fun ds M Q => ∃ a b c : Pl, ds = [tD [a, b, c]] ∧ ∀ p, M p = none → Q (.ref p) (updM M p (.lst ([[a, b, c], [b, c, a], [c, a, b]].map tD)))
theorem ok_rounds (T : Txt K mg t) : FnOk P w K mg base CX0 1 t.f_rounds t.fd_rounds ["t"] (sp3 K S_rounds) := by
  refine fn3 T.F_rounds sc_rounds (fun ds M Q h => by (first | (obtain ⟨_, rfl, _⟩ := h; rfl) | (obtain ⟨_, _, rfl, _⟩ := h; rfl) | (obtain ⟨_, _, _, rfl, _⟩ := h; rfl) | (obtain ⟨_, _, _, _, rfl, _⟩ := h; rfl) | (obtain ⟨_, _, _, _, _, rfl, _⟩ := h; rfl) | (obtain ⟨_, _, _, _, _, _, rfl, _⟩ := h; rfl) | (obtain ⟨_, _, _, _, _, _, _, rfl, _⟩ := h; rfl))) (fun cdv A outer s H hr => ?_)
  have hu := hr.units
  refine ⟨_, (b_one (s_ret (q_lst (a_cons (q_tup (a_cons (q_ix (q_var 0) q_int) (a_cons (q_ix (q_var 0) q_int) (a_cons (q_ix (q_var 0) q_int) a_nil)))) (a_cons (q_tup (a_cons (q_ix (q_var 0) q_int) (a_cons (q_ix (q_var 0) q_int) (a_cons (q_ix (q_var 0) q_int) a_nil)))) (a_cons (q_tup (a_cons (q_ix (q_var 0) q_int) (a_cons (q_ix (q_var 0) q_int) (a_cons (q_ix (q_var 0) q_int) a_nil)))) a_nil)))))), fun ds M Q h => ?_⟩
  obtain ⟨a, b, c, rfl, h⟩ := h
  walk_at "rd"
  intro p hp
  exact Hold.mk ⟨_, Le.refl _, h p hp⟩
theorem bd_left_corners (T : Txt K mg t) : Binds K t.fd_left_corners ["cover"] [] := T.F_left_corners.binds fun _ _ _ _ _ _ us hl => match us, hl with | [_], _ => rfl
def S_left_corners : Sp3 := fun ds M Q => ∃ l : Addr, ds = [.ref l] ∧ ∃ ts : List (List Pl), M l = some (.lst (ts.map tD)) ∧ (∀ t ∈ ts, Tr t) ∧ ts.length ≤ 200 ∧ ∀ p, M p = none → Q (.ref p) (updM M p (.dic (corL (rnds ts))))
theorem ok_left_corners (T : Txt K mg t) : FnOk P w K mg base CX0 2 t.f_left_corners t.fd_left_corners ["cover"] (sp3 K S_left_corners) := by
  refine fn3 T.F_left_corners sc_left_corners (fun ds M Q h => by (first | (obtain ⟨_, rfl, _⟩ := h; rfl) | (obtain ⟨_, _, rfl, _⟩ := h; rfl) | (obtain ⟨_, _, _, rfl, _⟩ := h; rfl) | (obtain ⟨_, _, _, _, rfl, _⟩ := h; rfl) | (obtain ⟨_, _, _, _, _, rfl, _⟩ := h; rfl) | (obtain ⟨_, _, _, _, _, _, rfl, _⟩ := h; rfl) | (obtain ⟨_, _, _, _, _, _, _, rfl, _⟩ := h; rfl))) (fun cdv A outer s H hr => ?_)
  have hu := hr.units
  refine ⟨_, (b_cons (s_set (i := 1) sc_left_corners.nd rfl (Or.inl rfl) q_dnew)
      (b_cons (s_forL PassesOwn.never rfl (q_var 0) (g_name (i := 2) sc_left_corners.nd rfl (Or.inl rfl)) (b_one (s_forL PassesOwn.never rfl (q_call (ok_rounds T) (hr.mono (by decide)) (by rfl) T.m_rounds T.F_rounds.kp (bd_rounds T) (a_cons (q_var 2) a_nil)) (g_name (i := 3) sc_left_corners.nd rfl (Or.inl rfl)) (b_one (s_asg (q_ix (q_var 3) q_int) (g_subD hu (q_var 1) (q_tup (a_cons (q_ix (q_var 3) q_int) (a_cons (q_ix (q_var 3) q_int) a_nil)))))))))
      (b_one (s_ret (q_var 1))))), fun ds M Q h => ?_⟩
  obtain ⟨l, rfl, ts, hM, hts, lts, h⟩ := h
  have sl : (1000 : Nat) < sizeLine := by decide
  refine fun (p : Addr) (hp : M p = none) => ?_
  have npl : l ≠ p := fun z => by rw [← z, hM] at hp; cases hp
  walk_at "rd"
  refine ⟨l, _, rfl, updM_old hM hp, ?_⟩
  refine runFor_inv (fun i ρ M' => (∃ y z : Option L3.D, ρ = [some (.ref l), some (.ref p), y, z]) ∧ M' l = some (.lst (ts.map tD)) ∧ M' p = some (.dic (corL (rnds (ts.take i)))) ∧ Le M M') _ ?_ ?_ ⟨⟨_, _, rfl⟩, updM_old hM hp, updM_same, Le.new hp⟩
  · rintro i x ρ M' N hx ⟨⟨y, z, rfl⟩, hM, hP, le⟩ hN
    obtain ⟨t, ht, rfl⟩ := trs_at hx
    obtain ⟨a, b, c, rfl, oa, ob, oc⟩ := hts t (List.mem_of_getElem? ht)
    refine ⟨hM, ?_⟩
    refine ⟨_, rfl, ?_⟩
    refine ⟨a, b, c, rfl, fun q hq => ?_⟩
    have hM := updM_old (u := MO.lst ([[a, b, c], [b, c, a], [c, a, b]].map tD)) hM hq
    have hP := updM_old (u := MO.lst ([[a, b, c], [b, c, a], [c, a, b]].map tD)) hP hq
    have le := le.trans (Le.new (o := MO.lst ([[a, b, c], [b, c, a], [c, a, b]].map tD)) hq)
    have hQ : updM M' q (.lst ([[a, b, c], [b, c, a], [c, a, b]].map tD)) q = some (.lst ([[a, b, c], [b, c, a], [c, a, b]].map tD)) := updM_same
    generalize updM M' q (.lst ([[a, b, c], [b, c, a], [c, a, b]].map tD)) = M2 at hM hP hQ le ⊢
    have nqp : q ≠ p := fun z => by rw [z, hP] at hQ; cases hQ
    refine ⟨q, _, rfl, hQ, ?_⟩
    have ln := rnds_len (ts.take i)
    rw [List.length_take] at ln
    refine runFor_inv (fun j ρ M4 => (∃ z : Option L3.D, ρ = [some (.ref l), some (.ref p), some (tD [a, b, c]), z]) ∧ M4 l = some (.lst (ts.map tD)) ∧ M4 q = some (.lst ([[a, b, c], [b, c, a], [c, a, b]].map tD)) ∧ M4 p = some (.dic (corL (rnds (ts.take i) ++ [[a, b, c], [b, c, a], [c, a, b]].take j))) ∧ Le M M4) _ ?_ ?_ ⟨⟨_, rfl⟩, hM, hQ, by rw [List.take_zero, List.append_nil]; exact hP, le⟩
    · rintro j x ρ M4 N2 hx2 ⟨⟨z, rfl⟩, hM, hQ, hP, le⟩ hN2
      obtain ⟨o, ho, rfl⟩ := trs_at hx2
      have hj : j < 3 := (List.getElem?_eq_some_iff.mp ho).1
      obtain ⟨e1, e2, e3, rfl⟩ := rnd1_three [a, b, c] o (List.mem_of_getElem? ho)
      have lc := corL_len (rnds (ts.take i) ++ [[a, b, c], [b, c, a], [c, a, b]].take j)
      rw [List.length_append, List.length_take] at lc
      refine ⟨hQ, ?_⟩
      walk_at "rd"
      refine ⟨p, _, keyT [e1, e2], rfl, (kD_keyT [e1, e2]).symm, hP, by simp only [List.length_cons, List.length_nil] at lc; omega, ?_⟩
      have es : [[a, b, c], [b, c, a], [c, a, b]].take (j + 1) = [[a, b, c], [b, c, a], [c, a, b]].take j ++ [[e1, e2, e3]] := by rw [List.take_succ, ho]; rfl
      refine hN2 _ _ ⟨⟨_, rfl⟩, ?_, ?_, ?_, fun x o e => ?_⟩
      · rw [updM_ne npl]; exact hM
      · rw [updM_ne nqp]; exact hQ
      · rw [updM_same, es, ← List.append_assoc, corL_snoc]
      · rw [updM_ne (fun z => by rw [z, hp] at e; cases e)]
        exact le _ _ e
    · rintro ρ M4 ⟨⟨z, rfl⟩, hM, hQ, hP, le⟩
      refine ⟨hQ, hN _ _ ⟨⟨_, _, rfl⟩, hM, ?_, le⟩⟩
      rw [rnds_take ht]
      exact hP
  · rintro ρ M' ⟨⟨y, z, rfl⟩, hM, hP, le⟩
    refine ⟨hM, ?_⟩
    walk_at "rd"
    rw [List.length_map, List.take_length] at hP
    refine Hold.mk ⟨updM M p (.dic (corL (rnds ts))), fun b o e => ?_, h p hp⟩
    by_cases hb : b = p
    · subst hb
      rw [updM_same] at e
      rw [hP]
      exact e
    · rw [updM_ne hb] at e
      exact le _ _ e
theorem bd_side_between (T : Txt K mg t) : Binds K t.fd_side_between ["a", "b"] [] := T.F_side_between.binds fun _ _ _ _ _ _ us hl => match us, hl with | [_, _], _ => rfl
def S_side_between : SpP := fun ds Q => ∃ a b : Pl, ds = [a.d, b.d] ∧ Q (tD [lo a b, hi a b])
theorem ok_side_between (T : Txt K mg t) : FnOk P w K mg base CX0 1 t.f_side_between t.fd_side_between ["a", "b"] (spP K S_side_between) := by
  refine fnP T.F_side_between sc_side_between (fun ds Q h => by (first | (obtain ⟨_, rfl, _⟩ := h; rfl) | (obtain ⟨_, _, rfl, _⟩ := h; rfl) | (obtain ⟨_, _, _, rfl, _⟩ := h; rfl) | (obtain ⟨_, _, _, _, rfl, _⟩ := h; rfl) | (obtain ⟨_, _, _, _, _, rfl, _⟩ := h; rfl) | (obtain ⟨_, _, _, _, _, _, rfl, _⟩ := h; rfl) | (obtain ⟨_, _, _, _, _, _, _, rfl, _⟩ := h; rfl))) (fun cdv A outer s H hr => ?_)
  have hu := hr.units
  refine ⟨_, (b_one (s_ret (q_tup (a_cons (q_blt (c_lo hu rfl) (by rfl) T.no_min boot3_min (a_cons (q_var 0) (a_cons (q_var 1) a_nil))) (a_cons (q_blt (c_hi hu rfl) (by rfl) T.no_max boot3_max (a_cons (q_var 0) (a_cons (q_var 1) a_nil))) a_nil))))), fun ds Q h => ?_⟩
  obtain ⟨a, b, rfl, h⟩ := h
  walk_at "rd"
  exact h
theorem bd_directed_sides (T : Txt K mg t) : Binds K t.fd_directed_sides ["cover"] [] := T.F_directed_sides.binds fun _ _ _ _ _ _ us hl => match us, hl with | [_], _ => rfl
def S_directed_sides : Sp3 := fun ds M Q => ∃ l : Addr, ds = [.ref l] ∧ ∃ ts : List (List Pl), M l = some (.lst (ts.map tD)) ∧ (∀ t ∈ ts, Tr t) ∧ ts.length ≤ 200 ∧ ∀ p, M p = none → Q (.ref p) (updM M p (.lst ((dirs ts).map tD)))
theorem ok_directed_sides (T : Txt K mg t) : FnOk P w K mg base CX0 2 t.f_directed_sides t.fd_directed_sides ["cover"] (sp3 K S_directed_sides) := by
  refine fn3 T.F_directed_sides sc_directed_sides (fun ds M Q h => by (first | (obtain ⟨_, rfl, _⟩ := h; rfl) | (obtain ⟨_, _, rfl, _⟩ := h; rfl) | (obtain ⟨_, _, _, rfl, _⟩ := h; rfl) | (obtain ⟨_, _, _, _, rfl, _⟩ := h; rfl) | (obtain ⟨_, _, _, _, _, rfl, _⟩ := h; rfl) | (obtain ⟨_, _, _, _, _, _, rfl, _⟩ := h; rfl) | (obtain ⟨_, _, _, _, _, _, _, rfl, _⟩ := h; rfl))) (fun cdv A outer s H hr => ?_)
  have hu := hr.units
  refine ⟨_, (b_cons (s_set (i := 1) sc_directed_sides.nd rfl (Or.inl rfl) (q_lst a_nil))
      (b_cons (s_forL PassesOwn.never rfl (q_var 0) (g_name (i := 2) sc_directed_sides.nd rfl (Or.inl rfl)) (b_one (s_expr (q_ext (q_var 1) (q_lc (q_lcL (ys := []) (fs := []) rfl (by show compChk (defScope s_directed_sides) ["cover", "ways", "t"] _ _ _ _ = true; decide +kernel) (q_call (ok_rounds T) (hr.mono (by decide)) (by rfl) T.m_rounds T.F_rounds.kp (bd_rounds T) (a_cons (q_var 2) a_nil)) (fun cl C s0 H0 ex => l_nil) (fun cl C s0 H0 ex => (q_tup (a_cons (q_ix (q_var 0) q_int) (a_cons (q_ix (q_var 0) q_int) a_nil)))))) (pe_bm PySem.F.plainAttrs_list PySem.F.slot_list_extend PySem.F.type_list_extend mt_extend (PE3.dn (q_var 1)) (pa_cons (PE3.dn (q_lc (q_lcL (ys := []) (fs := []) rfl (by show compChk (defScope s_directed_sides) ["cover", "ways", "t"] _ _ _ _ = true; decide +kernel) (q_call (ok_rounds T) (hr.mono (by decide)) (by rfl) T.m_rounds T.F_rounds.kp (bd_rounds T) (a_cons (q_var 2) a_nil)) (fun cl C s0 H0 ex => l_nil) (fun cl C s0 H0 ex => (q_tup (a_cons (q_ix (q_var 0) q_int) (a_cons (q_ix (q_var 0) q_int) a_nil))))))) pa_nil))))))
      (b_one (s_ret (q_var 1))))), fun ds M Q h => ?_⟩
  obtain ⟨l, rfl, ts, hM, hts, lts, h⟩ := h
  have sl : (1000 : Nat) < sizeLine := by decide
  walk_at "rd"
  intro p hp
  have npl : l ≠ p := fun z => by rw [← z, hM] at hp; cases hp
  walk_at "rd"
  refine ⟨l, _, rfl, updM_old hM hp, ?_⟩
  refine runFor_inv (fun i ρ M' => (∃ y : Option L3.D, ρ = [some (.ref l), some (.ref p), y]) ∧ M' l = some (.lst (ts.map tD)) ∧ M' p = some (.lst ((dirs (ts.take i)).map tD)) ∧ Le M M') _ ?_ ?_ ⟨⟨_, rfl⟩, updM_old hM hp, updM_same, Le.new hp⟩
  · rintro i x ρ M' N hx ⟨⟨y, rfl⟩, hM, hP, le⟩ hN
    obtain ⟨t, ht, rfl⟩ := trs_at hx
    obtain ⟨a, b, c, rfl, oa, ob, oc⟩ := hts t (List.mem_of_getElem? ht)
    refine ⟨hM, ?_⟩
    walk_at "rd"
    refine ⟨⟨p, _, rfl, hP⟩, ?_⟩
    refine ⟨_, rfl, ?_⟩
    refine ⟨a, b, c, rfl, fun q hq => ?_⟩
    have hM := updM_old (u := MO.lst ([[a, b, c], [b, c, a], [c, a, b]].map tD)) hM hq
    have hP := updM_old (u := MO.lst ([[a, b, c], [b, c, a], [c, a, b]].map tD)) hP hq
    have le := le.trans (Le.new (o := MO.lst ([[a, b, c], [b, c, a], [c, a, b]].map tD)) hq)
    have hQ : updM M' q (.lst ([[a, b, c], [b, c, a], [c, a, b]].map tD)) q = some (.lst ([[a, b, c], [b, c, a], [c, a, b]].map tD)) := updM_same
    generalize updM M' q (.lst ([[a, b, c], [b, c, a], [c, a, b]].map tD)) = M2 at hM hP hQ le ⊢
    refine ⟨q, _, rfl, hQ, by show 3 < sizeLine; omega, Hold.mk (runLC_inv (fun j acc M4 => M4 = M2 ∧ acc = (([[a, b], [b, c], [c, a]].take j)).map tD) _ ?_ ?_ ⟨rfl, rfl⟩)⟩
    · rintro j d acc M4 N2 hx2 ⟨rfl, rfl⟩ hN2
      obtain ⟨u, hu', rfl⟩ := trs_at hx2
      have hj : j < 3 := (List.getElem?_eq_some_iff.mp hu').1
      have hj : j = 0 ∨ j = 1 ∨ j = 2 := by omega
      refine ⟨hQ, ?_⟩
      rcases hj with rfl | rfl | rfl
      · cases hu'
        walk_at "rd"
        exact hN2 _ _ ⟨rfl, rfl⟩
      · cases hu'
        walk_at "rd"
        exact hN2 _ _ ⟨rfl, rfl⟩
      · cases hu'
        walk_at "rd"
        exact hN2 _ _ ⟨rfl, rfl⟩
    · rintro acc M4 ⟨rfl, hacc⟩
      have hacc : acc = [[a, b], [b, c], [c, a]].map tD := hacc
      subst hacc
      refine ⟨hQ, fun u hu' => ?_⟩
      have ld := dirs_len (ts.take i)
      rw [List.length_take] at ld
      have npu : u ≠ p := fun z => by rw [z, hP] at hu'; cases hu'
      refine ⟨p, u, _, _, rfl, rfl, updM_old hP hu', updM_same, by rw [List.length_map]; show _ + 3 ≤ sizeLine; omega, ?_⟩
      refine hN _ _ ⟨⟨_, rfl⟩, ?_, ?_, fun x o e => ?_⟩
      · rw [updM_ne npl]
        exact updM_old hM hu'
      · rw [updM_same, dirs_take ht, List.map_append]
        rfl
      · rw [updM_ne (fun z => by rw [z, hp] at e; cases e)]
        exact updM_old (le _ _ e) hu'
  · rintro ρ M' ⟨⟨y, rfl⟩, hM, hP, le⟩
    refine ⟨hM, ?_⟩
    walk_at "rd"
    rw [List.length_map, List.take_length] at hP
    refine Hold.mk ⟨updM M p (.lst ((dirs ts).map tD)), fun b o e => ?_, h p hp⟩
    by_cases hb : b = p
    · subst hb
      rw [updM_same] at e
      rw [hP]
      exact e
    · rw [updM_ne hb] at e
      exact le _ _ e
theorem bd_sides_of (T : Txt K mg t) : Binds K t.fd_sides_of ["cover"] [] := T.F_sides_of.binds fun _ _ _ _ _ _ us hl => match us, hl with | [_], _ => rfl
def S_sides_of : Sp3 := fun ds M Q => ∃ l : Addr, ds = [.ref l] ∧ ∃ ts : List (List Pl), M l = some (.lst (ts.map tD)) ∧ (∀ t ∈ ts, Tr t) ∧ ts.length ≤ 20 ∧ ∀ (p : Addr) (qs : List (List Pl)), M p = none → qs.Nodup → (∀ s, s ∈ qs ↔ s ∈ (dirs ts).map srt2) → Q (.ref p) (updM M p (.lst (qs.map tD)))
theorem ok_sides_of (T : Txt K mg t) : FnOk P w K mg base CX0 3 t.f_sides_of t.fd_sides_of ["cover"] (sp3 K S_sides_of) := by
  refine fn3 T.F_sides_of sc_sides_of (fun ds M Q h => by (first | (obtain ⟨_, rfl, _⟩ := h; rfl) | (obtain ⟨_, _, rfl, _⟩ := h; rfl) | (obtain ⟨_, _, _, rfl, _⟩ := h; rfl) | (obtain ⟨_, _, _, _, rfl, _⟩ := h; rfl) | (obtain ⟨_, _, _, _, _, rfl, _⟩ := h; rfl) | (obtain ⟨_, _, _, _, _, _, rfl, _⟩ := h; rfl) | (obtain ⟨_, _, _, _, _, _, _, rfl, _⟩ := h; rfl))) (fun cdv A outer s H hr => ?_)
  have hu := hr.units
  refine ⟨_, (b_one (s_ret (q_sortset (n := 2) (.inl rfl) hu (by rfl) (by rfl) T.no_sorted (by rfl) T.no_set (q_lc (q_lcL (ys := []) (fs := []) rfl (by show compChk (defScope s_sides_of) ["cover"] _ _ _ _ = true; decide +kernel) (q_call (ok_directed_sides T) (hr.mono (by decide)) (by rfl) T.m_directed_sides T.F_directed_sides.kp (bd_directed_sides T) (a_cons (q_var 0) a_nil)) (fun cl C s0 H0 ex => l_nil) (fun cl C s0 H0 ex => (q_callP (ok_side_between T) (hr.mono (by decide)) (by rfl) T.m_side_between T.F_side_between.kp (bd_side_between T) (a_cons (q_ix (q_var 0) q_int) (a_cons (q_ix (q_var 0) q_int) a_nil))))))))), fun ds M Q h => ?_⟩
  obtain ⟨l, rfl, ts, hM, hts, lts, h⟩ := h
  have sl : (1000 : Nat) < sizeLine := by decide
  walk_at "rd"
  refine ⟨ts, hM, hts, by omega, fun p hp => ?_⟩
  have ld := dirs_len ts
  refine ⟨p, _, rfl, updM_same, by rw [List.length_map]; omega, Hold.mk (runLC_inv (fun j acc M4 => M4 = updM M p (.lst ((dirs ts).map tD)) ∧ acc = (((dirs ts).take j).map srt2).map tD) _ ?_ ?_ ⟨rfl, rfl⟩)⟩
  · rintro j d acc M4 N2 hx2 ⟨rfl, rfl⟩ hN2
    obtain ⟨w, hw, rfl⟩ := trs_at hx2
    obtain ⟨a, b, rfl⟩ := dirs_two ts w (List.mem_of_getElem? hw)
    refine ⟨updM_same, ?_⟩
    walk_at "rd"
    refine hN2 _ _ ⟨rfl, ?_⟩
    rw [List.take_succ, hw, List.map_append, List.map_append]
    rfl
  · rintro acc M4 ⟨rfl, hacc⟩
    refine ⟨updM_same, fun u hu' => ?_⟩
    rw [List.length_map, List.take_length] at hacc
    subst hacc
    refine ⟨(dirs ts).map srt2, .of updM_same, fun s hs => ?_, by rw [List.length_map]; omega, fun q qs hq nd mem _ => ?_⟩
    · obtain ⟨w, hw, rfl⟩ := List.mem_map.mp hs
      obtain ⟨a, b, rfl⟩ := dirs_two ts w hw
      rfl
    · have hp2 : M q = none := by
        cases e : M q with
        | none => rfl
        | some o =>
          have := updM_old (u := MO.lst (((dirs ts).map srt2).map tD)) (updM_old (u := MO.lst ((dirs ts).map tD)) e hp) hu'
          rw [hq] at this
          cases this
      exact Hold.mk ⟨updM M q (.lst (qs.map tD)), Le.put ((Le.new hp).trans (Le.new hu')), h q qs hp2 nd mem⟩
theorem bd_twice (T : Txt K mg t) : Binds K t.fd_twice ["a", "b", "c"] [] := T.F_twice.binds fun _ _ _ _ _ _ us hl => match us, hl with | [_, _, _], _ => rfl
def S_twice : SpP := fun ds Q => ∃ a b c : Pl, ds = [a.d, b.d, c.d] ∧ a.Ok 140 ∧ b.Ok 140 ∧ c.Ok 140 ∧ Q (.int (tw a b c))
theorem ok_twice (T : Txt K mg t) : FnOk P w K mg base CX0 1 t.f_twice t.fd_twice ["a", "b", "c"] (spP K S_twice) := by
  refine fnP T.F_twice sc_twice (fun ds Q h => by (first | (obtain ⟨_, rfl, _⟩ := h; rfl) | (obtain ⟨_, _, rfl, _⟩ := h; rfl) | (obtain ⟨_, _, _, rfl, _⟩ := h; rfl) | (obtain ⟨_, _, _, _, rfl, _⟩ := h; rfl) | (obtain ⟨_, _, _, _, _, rfl, _⟩ := h; rfl) | (obtain ⟨_, _, _, _, _, _, rfl, _⟩ := h; rfl) | (obtain ⟨_, _, _, _, _, _, _, rfl, _⟩ := h; rfl))) (fun cdv A outer s H hr => ?_)
  have hu := hr.units
  refine ⟨_, (b_one (s_ret (q_bin o_sub (q_bin o_mul (q_bin o_sub (q_ix (q_var 1) q_int) (q_ix (q_var 0) q_int)) (q_bin o_sub (q_ix (q_var 2) q_int) (q_ix (q_var 0) q_int))) (q_bin o_mul (q_bin o_sub (q_ix (q_var 1) q_int) (q_ix (q_var 0) q_int)) (q_bin o_sub (q_ix (q_var 2) q_int) (q_ix (q_var 0) q_int)))))), fun ds Q h => ?_⟩
  obtain ⟨a, b, c, rfl, ⟨a1, a2⟩, ⟨b1, b2⟩, ⟨c1, c2⟩, h⟩ := h
  unfold tw at h
  walk_at "rd"
  exact h
theorem bd_ring_area (T : Txt K mg t) : Binds K t.fd_ring_area ["a", "b", "c"] [] := T.F_ring_area.binds fun _ _ _ _ _ _ us hl => match us, hl with | [_, _, _], _ => rfl
def S_ring_area : SpP := fun ds Q => ∃ a b c : Pl, ds = [a.d, b.d, c.d] ∧ a.Ok 140 ∧ b.Ok 140 ∧ c.Ok 140 ∧ tw a b c ≠ 0 ∧ Q (.int (tw a b c))
theorem ok_ring_area (T : Txt K mg t) : FnOk P w K mg base CX0 2 t.f_ring_area t.fd_ring_area ["a", "b", "c"] (spP K S_ring_area) := by
  refine fnP T.F_ring_area sc_ring_area (fun ds Q h => by (first | (obtain ⟨_, rfl, _⟩ := h; rfl) | (obtain ⟨_, _, rfl, _⟩ := h; rfl) | (obtain ⟨_, _, _, rfl, _⟩ := h; rfl) | (obtain ⟨_, _, _, _, rfl, _⟩ := h; rfl) | (obtain ⟨_, _, _, _, _, rfl, _⟩ := h; rfl) | (obtain ⟨_, _, _, _, _, _, rfl, _⟩ := h; rfl) | (obtain ⟨_, _, _, _, _, _, _, rfl, _⟩ := h; rfl))) (fun cdv A outer s H hr => ?_)
  have hu := hr.units
  refine ⟨_, (b_cons (s_set (i := 3) sc_ring_area.nd rfl (Or.inl rfl) (q_callP (ok_twice T) (hr.mono (by decide)) (by rfl) T.m_twice T.F_twice.kp (bd_twice T) (a_cons (q_var 0) (a_cons (q_var 1) (a_cons (q_var 2) a_nil)))))
      (b_cons (s_if (k_cmp (o_eq hu) (q_var 3) q_int (nomark _)) (b_one s_never) b_nil)
      (b_one (s_ret (q_var 3))))), fun ds Q h => ?_⟩
  obtain ⟨a, b, c, rfl, ha, hb, hc, hn, h⟩ := h
  walk_at "rd"
  refine ⟨ha, hb, hc, ?_⟩
  walk_at "rd"
  refine ite2 (fun k => ?_) (fun _ => ?_)
  · exfalso
    rw [eqD_int] at k
    exact hn (eq_of_beq k)
  walk_at "rd"
  exact h
theorem bd_sign (T : Txt K mg t) : Binds K t.fd_sign ["number"] [] := T.F_sign.binds fun _ _ _ _ _ _ us hl => match us, hl with | [_], _ => rfl
def S_sign : SpP := fun ds Q => ∃ i : Int, ds = [.int i] ∧ Q (.int i.sign)
theorem ok_sign (T : Txt K mg t) : FnOk P w K mg base CX0 1 t.f_sign t.fd_sign ["number"] (spP K S_sign) := by
  refine fnP T.F_sign sc_sign (fun ds Q h => by (first | (obtain ⟨_, rfl, _⟩ := h; rfl) | (obtain ⟨_, _, rfl, _⟩ := h; rfl) | (obtain ⟨_, _, _, rfl, _⟩ := h; rfl) | (obtain ⟨_, _, _, _, rfl, _⟩ := h; rfl) | (obtain ⟨_, _, _, _, _, rfl, _⟩ := h; rfl) | (obtain ⟨_, _, _, _, _, _, rfl, _⟩ := h; rfl) | (obtain ⟨_, _, _, _, _, _, _, rfl, _⟩ := h; rfl))) (fun cdv A outer s H hr => ?_)
  have hu := hr.units
  refine ⟨_, (b_cons (s_if (k_cmp o_gt (q_var 0) q_int (nomark _)) (b_one (s_ret q_int)) b_nil)
      (b_cons (s_if (k_cmp (o_ltD hu) (q_var 0) q_int (nomark _)) (b_one (s_ret (q_neg q_int))) b_nil)
      (b_one (s_ret q_int)))), fun ds Q h => ?_⟩
  obtain ⟨i, rfl, h⟩ := h
  walk_at "rd"
  refine ite2 (fun c => ?_) (fun c => ?_)
  · have c : 0 < i := of_decide_eq_true c
    rw [Int.sign_eq_one_of_pos c] at h
    exact h
  · have c : ¬ 0 < i := fun z => c (decide_eq_true z)
    walk_at "rd"
    refine ite2 (fun e => ?_) (fun e => ?_)
    · have e : i < 0 := of_decide_eq_true e
      rw [Int.sign_eq_neg_one_of_neg e] at h
      walk_at "rd"
      exact h
    · have e : ¬ i < 0 := fun z => e (decide_eq_true z)
      have z : i = 0 := by omega
      subst z
      exact h
theorem bd_apart (T : Txt K mg t) : Binds K t.fd_apart ["p", "q"] [] := T.F_apart.binds fun _ _ _ _ _ _ us hl => match us, hl with | [_, _], _ => rfl
def S_apart : SpP := fun ds Q => ∃ p q : Pl, ds = [p.d, q.d] ∧ p.Ok 140 ∧ q.Ok 140 ∧ Q (.int (apt p q))
theorem ok_apart (T : Txt K mg t) : FnOk P w K mg base CX0 1 t.f_apart t.fd_apart ["p", "q"] (spP K S_apart) := by
  refine fnP T.F_apart sc_apart (fun ds Q h => by (first | (obtain ⟨_, rfl, _⟩ := h; rfl) | (obtain ⟨_, _, rfl, _⟩ := h; rfl) | (obtain ⟨_, _, _, rfl, _⟩ := h; rfl) | (obtain ⟨_, _, _, _, rfl, _⟩ := h; rfl) | (obtain ⟨_, _, _, _, _, rfl, _⟩ := h; rfl) | (obtain ⟨_, _, _, _, _, _, rfl, _⟩ := h; rfl) | (obtain ⟨_, _, _, _, _, _, _, rfl, _⟩ := h; rfl))) (fun cdv A outer s H hr => ?_)
  have hu := hr.units
  refine ⟨_, (b_cons (s_set (i := 2) sc_apart.nd rfl (Or.inl rfl) (q_bin o_sub (q_ix (q_var 1) q_int) (q_ix (q_var 0) q_int)))
      (b_cons (s_set (i := 3) sc_apart.nd rfl (Or.inl rfl) (q_bin o_sub (q_ix (q_var 1) q_int) (q_ix (q_var 0) q_int)))
      (b_one (s_ret (q_bin o_add (q_bin o_mul (q_var 2) (q_var 2)) (q_bin o_mul (q_var 3) (q_var 3))))))), fun ds Q h => ?_⟩
  obtain ⟨p, q, rfl, ⟨p1, p2⟩, ⟨q1, q2⟩, h⟩ := h
  unfold apt at h
  walk_at "rd"
  exact h
theorem bd_ring (T : Txt K mg t) : Binds K t.fd_ring ["a", "b", "c", "d"] [] := T.F_ring.binds fun _ _ _ _ _ _ us hl => match us, hl with | [_, _, _, _], _ => rfl
def S_ring : SpP := fun ds Q => ∃ a b c d : Pl, ds = [a.d, b.d, c.d, d.d] ∧ a.Ok 140 ∧ b.Ok 140 ∧ c.Ok 140 ∧ d.Ok 140 ∧ tw a b c ≠ 0 ∧ Q (.int (rg a b c d))
theorem ok_ring (T : Txt K mg t) : FnOk P w K mg base CX0 3 t.f_ring t.fd_ring ["a", "b", "c", "d"] (spP K S_ring) := by
  refine fnP T.F_ring sc_ring (fun ds Q h => by (first | (obtain ⟨_, rfl, _⟩ := h; rfl) | (obtain ⟨_, _, rfl, _⟩ := h; rfl) | (obtain ⟨_, _, _, rfl, _⟩ := h; rfl) | (obtain ⟨_, _, _, _, rfl, _⟩ := h; rfl) | (obtain ⟨_, _, _, _, _, rfl, _⟩ := h; rfl) | (obtain ⟨_, _, _, _, _, _, rfl, _⟩ := h; rfl) | (obtain ⟨_, _, _, _, _, _, _, rfl, _⟩ := h; rfl))) (fun cdv A outer s H hr => ?_)
  have hu := hr.units
  refine ⟨_, (b_cons (s_set (i := 4) sc_ring.nd rfl (Or.inl rfl) (q_callP (ok_ring_area T) (hr.mono (by decide)) (by rfl) T.m_ring_area T.F_ring_area.kp (bd_ring_area T) (a_cons (q_var 0) (a_cons (q_var 1) (a_cons (q_var 2) a_nil)))))
      (b_cons (s_set (i := 5) sc_ring.nd rfl (Or.inl rfl) (q_bin o_add (q_bin o_add (q_bin o_mul (q_callP (ok_apart T) (hr.mono (by decide)) (by rfl) T.m_apart T.F_apart.kp (bd_apart T) (a_cons (q_var 3) (a_cons (q_var 0) a_nil))) (q_callP (ok_twice T) (hr.mono (by decide)) (by rfl) T.m_twice T.F_twice.kp (bd_twice T) (a_cons (q_var 3) (a_cons (q_var 1) (a_cons (q_var 2) a_nil))))) (q_bin o_mul (q_callP (ok_apart T) (hr.mono (by decide)) (by rfl) T.m_apart T.F_apart.kp (bd_apart T) (a_cons (q_var 3) (a_cons (q_var 1) a_nil))) (q_callP (ok_twice T) (hr.mono (by decide)) (by rfl) T.m_twice T.F_twice.kp (bd_twice T) (a_cons (q_var 3) (a_cons (q_var 2) (a_cons (q_var 0) a_nil)))))) (q_bin o_mul (q_callP (ok_apart T) (hr.mono (by decide)) (by rfl) T.m_apart T.F_apart.kp (bd_apart T) (a_cons (q_var 3) (a_cons (q_var 2) a_nil))) (q_callP (ok_twice T) (hr.mono (by decide)) (by rfl) T.m_twice T.F_twice.kp (bd_twice T) (a_cons (q_var 3) (a_cons (q_var 0) (a_cons (q_var 1) a_nil)))))))
      (b_one (s_ret (q_bin o_mul (q_callP (ok_sign T) (hr.mono (by decide)) (by rfl) T.m_sign T.F_sign.kp (bd_sign T) (a_cons (q_var 4) a_nil)) (q_callP (ok_sign T) (hr.mono (by decide)) (by rfl) T.m_sign T.F_sign.kp (bd_sign T) (a_cons (q_var 5) a_nil))))))), fun ds Q h => ?_⟩
  obtain ⟨a, b, c, d, rfl, ha, hb, hc, hd, hn, h⟩ := h
  have s1 := apt_sm hd ha
  have s2 := apt_sm hd hb
  have s3 := apt_sm hd hc
  have t1 := tw_sm hd hb hc
  have t2 := tw_sm hd hc ha
  have t3 := tw_sm hd ha hb
  walk_at "rd"
  refine ⟨ha, hb, hc, hn, ?_⟩
  walk_at "rd"
  refine ⟨hd, ha, ?_⟩
  walk_at "rd"
  refine ⟨hd, hb, hc, ?_⟩
  walk_at "rd"
  refine ⟨hd, hb, ?_⟩
  walk_at "rd"
  refine ⟨hd, hc, ha, ?_⟩
  walk_at "rd"
  refine ⟨hd, hc, ?_⟩
  walk_at "rd"
  refine ⟨hd, ha, hb, ?_⟩
  walk_at "rd"
  unfold rg dep at h
  exact h
theorem bd_turn (T : Txt K mg t) : Binds K t.fd_turn ["a", "b", "c"] [] := T.F_turn.binds fun _ _ _ _ _ _ us hl => match us, hl with | [_, _, _], _ => rfl
def S_turn : SpP := fun ds Q => ∃ a b c : Pl, ds = [a.d, b.d, c.d] ∧ a.Ok 140 ∧ b.Ok 140 ∧ c.Ok 140 ∧ Q (.int (tw a b c).sign)
theorem ok_turn (T : Txt K mg t) : FnOk P w K mg base CX0 2 t.f_turn t.fd_turn ["a", "b", "c"] (spP K S_turn) := by
  refine fnP T.F_turn sc_turn (fun ds Q h => by (first | (obtain ⟨_, rfl, _⟩ := h; rfl) | (obtain ⟨_, _, rfl, _⟩ := h; rfl) | (obtain ⟨_, _, _, rfl, _⟩ := h; rfl) | (obtain ⟨_, _, _, _, rfl, _⟩ := h; rfl) | (obtain ⟨_, _, _, _, _, rfl, _⟩ := h; rfl) | (obtain ⟨_, _, _, _, _, _, rfl, _⟩ := h; rfl) | (obtain ⟨_, _, _, _, _, _, _, rfl, _⟩ := h; rfl))) (fun cdv A outer s H hr => ?_)
  have hu := hr.units
  refine ⟨_, (b_one (s_ret (q_callP (ok_sign T) (hr.mono (by decide)) (by rfl) T.m_sign T.F_sign.kp (bd_sign T) (a_cons (q_callP (ok_twice T) (hr.mono (by decide)) (by rfl) T.m_twice T.F_twice.kp (bd_twice T) (a_cons (q_var 0) (a_cons (q_var 1) (a_cons (q_var 2) a_nil)))) a_nil)))), fun ds Q h => ?_⟩
  obtain ⟨a, b, c, rfl, ha, hb, hc, h⟩ := h
  walk_at "rd"
  refine ⟨ha, hb, hc, ?_⟩
  walk_at "rd"
  exact h
theorem bd_spoils (T : Txt K mg t) : Binds K t.fd_spoils ["a", "b", "c", "d"] [] := T.F_spoils.binds fun _ _ _ _ _ _ us hl => match us, hl with | [_, _, _, _], _ => rfl
def S_spoils : SpP := fun ds Q => ∃ a b c d : Pl, ds = [a.d, b.d, c.d, d.d] ∧ a.Ok 140 ∧ b.Ok 140 ∧ c.Ok 140 ∧ d.Ok 140 ∧ tw a b c ≠ 0 ∧ Q (.bl (decide (Spo a b c d)))
theorem ok_spoils (T : Txt K mg t) : FnOk P w K mg base CX0 4 t.f_spoils t.fd_spoils ["a", "b", "c", "d"] (spP K S_spoils) := by
  refine fnP T.F_spoils sc_spoils (fun ds Q h => by (first | (obtain ⟨_, rfl, _⟩ := h; rfl) | (obtain ⟨_, _, rfl, _⟩ := h; rfl) | (obtain ⟨_, _, _, rfl, _⟩ := h; rfl) | (obtain ⟨_, _, _, _, rfl, _⟩ := h; rfl) | (obtain ⟨_, _, _, _, _, rfl, _⟩ := h; rfl) | (obtain ⟨_, _, _, _, _, _, rfl, _⟩ := h; rfl) | (obtain ⟨_, _, _, _, _, _, _, rfl, _⟩ := h; rfl))) (fun cdv A outer s H hr => ?_)
  have hu := hr.units
  refine ⟨_, (b_cons (s_set (i := 4) sc_spoils.nd rfl (Or.inl rfl) (q_callP (ok_ring T) (hr.mono (by decide)) (by rfl) T.m_ring T.F_ring.kp (bd_ring T) (a_cons (q_var 0) (a_cons (q_var 1) (a_cons (q_var 2) (a_cons (q_var 3) a_nil))))))
      (b_cons (s_if (k_cmp (o_ne hu) (q_var 4) q_int (nomark _)) (b_one (s_ret (q_cmp (o_eq hu) (q_var 4) q_int (nomark _)))) b_nil)
      (b_cons (s_if (k_cmp (o_in hu) (q_var 3) (q_tup (a_cons (q_var 0) (a_cons (q_var 1) (a_cons (q_var 2) a_nil)))) (by with_unfolding_all rfl)) (b_one (s_ret q_bl)) b_nil)
      (b_cons (s_set (i := 5) sc_spoils.nd rfl (Or.inl rfl) (q_blt c_sorted (by rfl) T.no_sorted boot3_sorted (a_cons (q_lst (a_cons (q_var 0) (a_cons (q_var 1) (a_cons (q_var 2) a_nil)))) a_nil)))
      (b_cons (s_if (k_cmp (o_ltD hu) (q_var 3) (q_ix (q_var 5) q_int) (nomark _)) (b_one (s_ret q_bl)) b_nil)
      (b_one (s_ret (q_cmp (o_ne hu) (q_callP (ok_turn T) (hr.mono (by decide)) (by rfl) T.m_turn T.F_turn.kp (bd_turn T) (a_cons (q_ix (q_var 5) q_int) (a_cons (q_ix (q_var 5) q_int) (a_cons (q_var 3) a_nil)))) (q_callP (ok_turn T) (hr.mono (by decide)) (by rfl) T.m_turn T.F_turn.kp (bd_turn T) (a_cons (q_ix (q_var 5) q_int) (a_cons (q_ix (q_var 5) q_int) (a_cons (q_ix (q_var 5) q_int) a_nil)))) (nomark _))))))))), fun ds Q h => ?_⟩
  obtain ⟨a, b, c, d, rfl, ha, hb, hc, hd, hn, h⟩ := h
  walk_at "rd"
  refine ⟨ha, hb, hc, hd, hn, ?_⟩
  walk_at "rd"
  refine ite2 (fun k => ?_) (fun k => ?_)
  · have k : rg a b c d ≠ 0 := fun z => by rw [z] at k; exact absurd k (by decide)
    walk_at "rd"
    have e : decide (Spo a b c d) = eqD (.int (rg a b c d)) (.int 1) := by
      rw [eqD_int, Bool.eq_iff_iff]
      simp [Spo, k]
    rw [e] at h
    exact h
  · have k : rg a b c d = 0 := by
      apply Classical.byContradiction
      intro z
      apply k
      rw [eqD_int, beq_eq_false_iff_ne.mpr z]
      rfl
    walk_at "rd"
    rw [inD3]
    refine ite2 (fun k2 => ?_) (fun k2 => ?_)
    · have k2 := of_decide_eq_true k2
      walk_at "rd"
      have e : decide (Spo a b c d) = false := decide_eq_false (fun z => by unfold Spo at z; rw [k] at z; grind)
      rw [e] at h
      exact h
    · have k2 : ¬ (d = a ∨ d = b ∨ d = c) := fun z => k2 (decide_eq_true z)
      walk_at "rd"
      intro l hl
      refine ⟨l, [a, b, c], rfl, updM_same, by show 3 < 64; decide, fun p qs hp hperm hsort => ?_⟩
      obtain ⟨u, v, w, rfl⟩ := three_of hperm.length_eq
      obtain ⟨hu, hv, hw⟩ := ok_perm3 hperm ha hb hc
      have key := spo_sorted hn k k2 hperm hsort
      rw [key] at h
      walk_at "rd"
      refine ⟨_, _, _, .inr (.inr ⟨p, rfl, updM_same⟩), rfl, rfl, ?_⟩
      walk_at "rd"
      rw [lex_bef]
      refine ite2 (fun k3 => ?_) (fun k3 => ?_)
      · rw [if_pos (of_decide_eq_true k3)] at h
        walk_at "rd"
        exact h
      · rw [if_neg (fun z => k3 (decide_eq_true z))] at h
        walk_at "rd"
        refine ⟨_, _, _, .inr (.inr ⟨p, rfl, updM_same⟩), rfl, rfl, ?_⟩
        walk_at "rd"
        refine ⟨_, _, _, .inr (.inr ⟨p, rfl, updM_same⟩), rfl, rfl, ?_⟩
        walk_at "rd"
        refine ⟨hv, hw, hd, ?_⟩
        walk_at "rd"
        refine ⟨_, _, _, .inr (.inr ⟨p, rfl, updM_same⟩), rfl, rfl, ?_⟩
        walk_at "rd"
        refine ⟨_, _, _, .inr (.inr ⟨p, rfl, updM_same⟩), rfl, rfl, ?_⟩
        walk_at "rd"
        refine ⟨_, _, _, .inr (.inr ⟨p, rfl, updM_same⟩), rfl, rfl, ?_⟩
        walk_at "rd"
        refine ⟨hv, hw, hu, ?_⟩
        walk_at "rd"
        rw [ne_dec]
        exact h
theorem bd_back (T : Txt K mg t) : Binds K t.fd_back ["way"] [] := T.F_back.binds fun _ _ _ _ _ _ us hl => match us, hl with | [_], _ => rfl
def S_back : SpP := fun ds Q => ∃ a b : Pl, ds = [tD [a, b]] ∧ Q (tD [b, a])
theorem ok_back (T : Txt K mg t) : FnOk P w K mg base CX0 1 t.f_back t.fd_back ["way"] (spP K S_back) := by
  refine fnP T.F_back sc_back (fun ds Q h => by (first | (obtain ⟨_, rfl, _⟩ := h; rfl) | (obtain ⟨_, _, rfl, _⟩ := h; rfl) | (obtain ⟨_, _, _, rfl, _⟩ := h; rfl) | (obtain ⟨_, _, _, _, rfl, _⟩ := h; rfl) | (obtain ⟨_, _, _, _, _, rfl, _⟩ := h; rfl) | (obtain ⟨_, _, _, _, _, _, rfl, _⟩ := h; rfl) | (obtain ⟨_, _, _, _, _, _, _, rfl, _⟩ := h; rfl))) (fun cdv A outer s H hr => ?_)
  have hu := hr.units
  refine ⟨_, (b_one (s_ret (q_tup (a_cons (q_ix (q_var 0) q_int) (a_cons (q_ix (q_var 0) q_int) a_nil))))), fun ds Q h => ?_⟩
  obtain ⟨a, b, rfl, h⟩ := h
  walk_at "rd"
  exact h
theorem bd_is_wrong (T : Txt K mg t) : Binds K t.fd_is_wrong ["corners", "side"] [] := T.F_is_wrong.binds fun _ _ _ _ _ _ us hl => match us, hl with | [_, _], _ => rfl
def S_is_wrong : Sp3 := fun ds M Q => ∃ (a : Addr) (u v : Pl) (kvs : List (List (List Int) × L3.D)), ds = [.ref a, tD [u, v]] ∧ M a = some (.dic kvs) ∧ (((getD2 kvs (keyT [u, v]) = none ∨ getD2 kvs (keyT [v, u]) = none) ∧ Q (.bl false) M) ∨ ∃ x y : Pl, getD2 kvs (keyT [u, v]) = some x.d ∧ getD2 kvs (keyT [v, u]) = some y.d ∧ u.Ok 140 ∧ v.Ok 140 ∧ x.Ok 140 ∧ y.Ok 140 ∧ tw u v x ≠ 0 ∧ Q (.bl (decide (Spo u v x y))) M)
theorem ok_is_wrong (T : Txt K mg t) : FnOk P w K mg base CX0 5 t.f_is_wrong t.fd_is_wrong ["corners", "side"] (sp3 K S_is_wrong) := by
  refine fn3 T.F_is_wrong sc_is_wrong (fun ds M Q h => by (first | (obtain ⟨_, rfl, _⟩ := h; rfl) | (obtain ⟨_, _, rfl, _⟩ := h; rfl) | (obtain ⟨_, _, _, rfl, _⟩ := h; rfl) | (obtain ⟨_, _, _, _, rfl, _⟩ := h; rfl) | (obtain ⟨_, _, _, _, _, rfl, _⟩ := h; rfl) | (obtain ⟨_, _, _, _, _, _, rfl, _⟩ := h; rfl) | (obtain ⟨_, _, _, _, _, _, _, rfl, _⟩ := h; rfl))) (fun cdv A outer s H hr => ?_)
  have hu := hr.units
  refine ⟨_, (b_cons (s_if (PW3.pt (k_or (k_cmp (o_notInDic hu) (q_var 1) (q_var 0) (by with_unfolding_all rfl)) (k_or1 (k_cmp (o_notInDic hu) (q_callP (ok_back T) (hr.mono (by decide)) (by rfl) T.m_back T.F_back.kp (bd_back T) (a_cons (q_var 1) a_nil)) (q_var 0) (by with_unfolding_all rfl))))) (b_one (s_ret q_bl)) b_nil)
      (b_one (s_ret (q_callP (ok_spoils T) (hr.mono (by decide)) (by rfl) T.m_spoils T.F_spoils.kp (bd_spoils T) (a_cons (q_ix (q_var 1) q_int) (a_cons (q_ix (q_var 1) q_int) (a_cons (q_ixD hu (q_var 0) (q_var 1)) (a_cons (q_ixD hu (q_var 0) (q_callP (ok_back T) (hr.mono (by decide)) (by rfl) T.m_back T.F_back.kp (bd_back T) (a_cons (q_var 1) a_nil))) a_nil)))))))), fun ds M Q h => ?_⟩
  obtain ⟨a, u, v, kvs, rfl, hM, h⟩ := h
  walk_at "rd"
  refine ⟨a, keyT [u, v], kvs, (kD_keyT [u, v]).symm, rfl, hM, ?_⟩
  rcases h with ⟨hn, h⟩ | ⟨x, y, g1, g2, ou, ov, ox, oy, hn, h⟩
  · by_cases c : getD2 kvs (keyT [u, v]) = none
    · rw [c]
      walk_at "rd"
      exact Hold.mk ⟨_, Le.refl _, h⟩
    · obtain ⟨z, hz⟩ := Option.ne_none_iff_exists'.mp c
      rw [hz]
      walk_at "rd"
      refine ⟨a, keyT [v, u], kvs, (kD_keyT [v, u]).symm, rfl, hM, ?_⟩
      rw [hn.resolve_left c]
      walk_at "rd"
      exact Hold.mk ⟨_, Le.refl _, h⟩
  · rw [g1]
    walk_at "rd"
    refine ⟨a, keyT [v, u], kvs, (kD_keyT [v, u]).symm, rfl, hM, ?_⟩
    rw [g2]
    walk_at "rd"
    refine ⟨a, keyT [u, v], kvs, _, rfl, (kD_keyT [u, v]).symm, hM, g1, ?_⟩
    walk_at "rd"
    refine ⟨a, keyT [v, u], kvs, _, rfl, (kD_keyT [v, u]).symm, hM, g2, ?_⟩
    walk_at "rd"
    refine ⟨ou, ov, ox, oy, hn, ?_⟩
    exact Hold.mk ⟨_, Le.refl _, h⟩
theorem bd_wrong (T : Txt K mg t) : Binds K t.fd_wrong ["cover"] [] := T.F_wrong.binds fun _ _ _ _ _ _ us hl => match us, hl with | [_], _ => rfl
def S_wrong : Sp3 := fun ds M Q => ∃ (l : Addr) (p q x y : Pl) (ts : List (List Pl)), ds = [.ref l] ∧ M l = some (.lst (ts.map tD)) ∧ Cvx p q x y ∧ bef p q ∧ Cutt p q x y ts ∧ p.Ok 140 ∧ q.Ok 140 ∧ x.Ok 140 ∧ y.Ok 140 ∧ ∀ r, M r = none → Q (.ref r) (updM M r (.lst ((if Spo p q x y then [[p, q]] else []).map tD)))
theorem ok_wrong (T : Txt K mg t) : FnOk P w K mg base CX0 6 t.f_wrong t.fd_wrong ["cover"] (sp3 K S_wrong) := by
  refine fn3 T.F_wrong sc_wrong (fun ds M Q h => by (first | (obtain ⟨_, rfl, _⟩ := h; rfl) | (obtain ⟨_, _, rfl, _⟩ := h; rfl) | (obtain ⟨_, _, _, rfl, _⟩ := h; rfl) | (obtain ⟨_, _, _, _, rfl, _⟩ := h; rfl) | (obtain ⟨_, _, _, _, _, rfl, _⟩ := h; rfl) | (obtain ⟨_, _, _, _, _, _, rfl, _⟩ := h; rfl) | (obtain ⟨_, _, _, _, _, _, _, rfl, _⟩ := h; rfl))) (fun cdv A outer s H hr => ?_)
  have hu := hr.units
  refine ⟨_, (b_cons (s_set (i := 1) sc_wrong.nd rfl (Or.inr rfl) (q_call (ok_left_corners T) (hr.mono (by decide)) (by rfl) T.m_left_corners T.F_left_corners.kp (bd_left_corners T) (a_cons (q_var 0) a_nil)))
      (b_one (s_ret (q_lc (q_lcL (ys := ["corners"]) (fs := [1]) rfl (by show compChk (defScope s_wrong) ["cover", "corners"] _ _ _ _ = true; decide +kernel) (q_call (ok_sides_of T) (hr.mono (by decide)) (by rfl) T.m_sides_of T.F_sides_of.kp (bd_sides_of T) (a_cons (q_var 0) a_nil)) (fun cl C s0 H0 ex => l_one (k_val (q_call (ok_is_wrong T) (hr.mono (by decide)) (by rfl) T.m_is_wrong T.F_is_wrong.kp (bd_is_wrong T) (a_cons (q_var 1) (a_cons (q_var 0) a_nil))))) (fun cl C s0 H0 ex => (q_var 0))))))), fun ds M Q h => ?_⟩
  obtain ⟨l, p, q, x, y, ts, rfl, hM, hv, hb, hc, op, oq, ox, oy, h⟩ := h
  have sl : (1000 : Nat) < sizeLine := by decide
  walk_at "rd"
  refine ⟨ts, hM, hc.tr op oq ox oy, by rw [hc.len]; decide, fun c hcn => ?_⟩
  obtain ⟨t1, t2⟩ := hc.there hv
  have hM1 := updM_old (u := MO.dic (corL (rnds ts))) hM hcn
  have hD1 : updM M c (.dic (corL (rnds ts))) c = some (.dic (corL (rnds ts))) := updM_same
  have le1 : Le M (updM M c (.dic (corL (rnds ts)))) := Le.new hcn
  generalize updM M c (.dic (corL (rnds ts))) = M1 at hM1 hD1 le1 ⊢
  walk_at "rd"
  refine ⟨ts, hM1, hc.tr op oq ox oy, by rw [hc.len]; decide, fun u qs hu' nd mem => ?_⟩
  have lq : qs.length ≤ 6 := by
    have h1 := nodup_le nd fun s hs => (mem s).mp hs
    have h2 := dirs_len ts
    rw [List.length_map] at h1
    rw [hc.len] at h2
    omega
  have hD2 := updM_old (u := MO.lst (qs.map tD)) hD1 hu'
  have le2 := le1.trans (Le.new (o := MO.lst (qs.map tD)) hu')
  have hU : updM M1 u (.lst (qs.map tD)) u = some (.lst (qs.map tD)) := updM_same
  generalize updM M1 u (.lst (qs.map tD)) = M2 at hD2 le2 hU ⊢
  refine ⟨u, _, rfl, hU, by rw [List.length_map]; omega, Hold.mk (runLC_inv (fun j acc M4 => M4 = M2 ∧ acc = ((qs.take j).filter (fun z => decide (z = [p, q]) && decide (Spo p q x y))).map tD) _ ?_ ?_ ⟨rfl, rfl⟩)⟩
  · rintro j d acc M4 N2 hx2 ⟨rfl, rfl⟩ hN2
    obtain ⟨s, hs, rfl⟩ := trs_at hx2
    obtain ⟨a, b, rfl, hab⟩ := hc.side hv hb ((mem s).mp (List.mem_of_getElem? hs))
    refine ⟨hU, ?_⟩
    walk_at "rd"
    have fin : ∀ k : Bool, k = (decide (([a, b] : List Pl) = [p, q]) && decide (Spo p q x y)) → (k = true → N2 (((qs.take j).filter (fun z => decide (z = [p, q]) && decide (Spo p q x y))).map tD ++ [tD [a, b]]) M4) ∧ (¬ k = true → N2 (((qs.take j).filter (fun z => decide (z = [p, q]) && decide (Spo p q x y))).map tD) M4) := by
      intro k e
      constructor
      · intro ek
        refine hN2 _ _ ⟨rfl, ?_⟩
        rw [List.take_succ, hs, List.filter_append, List.map_append]
        congr 1
        show _ = ([([a, b] : List Pl)].filter _).map tD
        rw [List.filter_cons, if_pos (e ▸ ek)]
        rfl
      · intro ek
        refine hN2 _ _ ⟨rfl, ?_⟩
        rw [List.take_succ, hs, List.filter_append, List.map_append]
        have : ([([a, b] : List Pl)].filter fun z => decide (z = [p, q]) && decide (Spo p q x y)) = [] := by
          rw [List.filter_cons, if_neg (e ▸ ek)]
          rfl
        show _ = _ ++ ([([a, b] : List Pl)].filter _).map tD
        rw [this]
        simp
    refine ⟨c, a, b, _, rfl, hD2, ?_⟩
    rcases hab with ⟨rfl, rfl⟩ | ⟨ne, hn⟩
    · obtain ⟨v1, _⟩ := hv
      exact .inr ⟨x, y, t1, t2, op, oq, ox, oy, by omega, _, rfl, ite2 (fun k => ⟨_, rfl, (fin _ (by simp)).1 k⟩) (fun k => (fin _ (by simp)).2 k)⟩
    · exact .inl ⟨hn, _, rfl, ite2 (fun k => ⟨_, rfl, (fin false (by simp [ne])).1 k⟩) (fun k => (fin false (by simp [ne])).2 k)⟩
  · rintro acc M4 ⟨rfl, hacc⟩
    refine ⟨hU, fun r hr => ?_⟩
    rw [List.length_map, List.take_length] at hacc
    subst hacc
    have e : qs.filter (fun z => decide (z = [p, q]) && decide (Spo p q x y)) = if Spo p q x y then [[p, q]] else [] := by
      by_cases c : Spo p q x y
      · rw [if_pos c, decide_eq_true c]
        simp only [Bool.and_true]
        exact filter_one nd ((mem _).mpr (hc.own hb))
      · rw [if_neg c, decide_eq_false c]
        simp
    rw [e]
    have hr2 : M r = none := by
      cases z : M r with
      | none => rfl
      | some o =>
        rw [le2 _ _ z] at hr
        cases hr
    exact Hold.mk ⟨_, Le.put le2, h r hr2⟩
theorem bd_can_turn (T : Txt K mg t) : Binds K t.fd_can_turn ["corners", "side"] [] := T.F_can_turn.binds fun _ _ _ _ _ _ us hl => match us, hl with | [_, _], _ => rfl
def S_can_turn : Sp3 := fun ds M Q => ∃ (a : Addr) (p q x y : Pl) (kvs : List (List (List Int) × L3.D)), ds = [.ref a, tD [p, q]] ∧ M a = some (.dic kvs) ∧ getD2 kvs (keyT [p, q]) = some x.d ∧ getD2 kvs (keyT [q, p]) = some y.d ∧ Cvx p q x y ∧ bef p q ∧ p.Ok 140 ∧ q.Ok 140 ∧ x.Ok 140 ∧ y.Ok 140 ∧ Q (.bl true) M
theorem ok_can_turn (T : Txt K mg t) : FnOk P w K mg base CX0 3 t.f_can_turn t.fd_can_turn ["corners", "side"] (sp3 K S_can_turn) := by
  refine fn3 T.F_can_turn sc_can_turn (fun ds M Q h => by (first | (obtain ⟨_, rfl, _⟩ := h; rfl) | (obtain ⟨_, _, rfl, _⟩ := h; rfl) | (obtain ⟨_, _, _, rfl, _⟩ := h; rfl) | (obtain ⟨_, _, _, _, rfl, _⟩ := h; rfl) | (obtain ⟨_, _, _, _, _, rfl, _⟩ := h; rfl) | (obtain ⟨_, _, _, _, _, _, rfl, _⟩ := h; rfl) | (obtain ⟨_, _, _, _, _, _, _, rfl, _⟩ := h; rfl))) (fun cdv A outer s H hr => ?_)
  have hu := hr.units
  refine ⟨_, (b_cons (s_if (PW3.pt (k_or (k_cmp (o_gtP hu) (q_ix (q_var 1) q_int) (q_ix (q_var 1) q_int) (nomark _)) (k_or (k_cmp (o_notInDic hu) (q_var 1) (q_var 0) (by with_unfolding_all rfl)) (k_or1 (k_cmp (o_notInDic hu) (q_callP (ok_back T) (hr.mono (by decide)) (by rfl) T.m_back T.F_back.kp (bd_back T) (a_cons (q_var 1) a_nil)) (q_var 0) (by with_unfolding_all rfl)))))) (b_one (s_ret q_bl)) b_nil)
      (b_cons (s_set (i := 2) sc_can_turn.nd rfl (Or.inl rfl) (q_ixD hu (q_var 0) (q_var 1)))
      (b_cons (s_set (i := 3) sc_can_turn.nd rfl (Or.inl rfl) (q_ixD hu (q_var 0) (q_callP (ok_back T) (hr.mono (by decide)) (by rfl) T.m_back T.F_back.kp (bd_back T) (a_cons (q_var 1) a_nil))))
      (b_one (s_ret (q_cmp (o_eq hu) (q_bin o_mul (q_callP (ok_turn T) (hr.mono (by decide)) (by rfl) T.m_turn T.F_turn.kp (bd_turn T) (a_cons (q_var 2) (a_cons (q_var 3) (a_cons (q_ix (q_var 1) q_int) a_nil)))) (q_callP (ok_turn T) (hr.mono (by decide)) (by rfl) T.m_turn T.F_turn.kp (bd_turn T) (a_cons (q_var 2) (a_cons (q_var 3) (a_cons (q_ix (q_var 1) q_int) a_nil))))) (q_neg q_int) (nomark _))))))), fun ds M Q h => ?_⟩
  obtain ⟨a, p, q, x, y, kvs, rfl, hM, g1, g2, hv, hb, op, oq, ox, oy, h⟩ := h
  walk_at "rd"
  rw [decide_eq_false (bef_asymm hb)]
  walk_at "rd"
  refine ⟨a, keyT [p, q], kvs, (kD_keyT [p, q]).symm, rfl, hM, ?_⟩
  rw [g1]
  walk_at "rd"
  refine ⟨a, keyT [q, p], kvs, (kD_keyT [q, p]).symm, rfl, hM, ?_⟩
  rw [g2]
  walk_at "rd"
  refine ⟨a, keyT [p, q], kvs, _, rfl, (kD_keyT [p, q]).symm, hM, g1, ?_⟩
  walk_at "rd"
  refine ⟨a, keyT [q, p], kvs, _, rfl, (kD_keyT [q, p]).symm, hM, g2, ?_⟩
  walk_at "rd"
  refine ⟨ox, oy, op, ?_⟩
  walk_at "rd"
  refine ⟨ox, oy, oq, ?_⟩
  walk_at "rd"
  obtain ⟨_, _, v3, v4⟩ := hv
  rw [Int.sign_eq_neg_one_of_neg v3, Int.sign_eq_one_of_pos v4]
  exact Hold.mk ⟨_, Le.refl _, h⟩
theorem bd_other_side (T : Txt K mg t) : Binds K t.fd_other_side ["cover", "side"] [] := T.F_other_side.binds fun _ _ _ _ _ _ us hl => match us, hl with | [_, _], _ => rfl
def S_other_side : Sp3 := fun ds M Q => ∃ (l : Addr) (p q x y : Pl) (ts : List (List Pl)), ds = [.ref l, tD [p, q]] ∧ M l = some (.lst (ts.map tD)) ∧ Cvx p q x y ∧ bef p q ∧ Cutt p q x y ts ∧ p.Ok 140 ∧ q.Ok 140 ∧ x.Ok 140 ∧ y.Ok 140 ∧ Q (tD [lo x y, hi x y]) M
theorem ok_other_side (T : Txt K mg t) : FnOk P w K mg base CX0 4 t.f_other_side t.fd_other_side ["cover", "side"] (sp3 K S_other_side) := by
  refine fn3 T.F_other_side sc_other_side (fun ds M Q h => by (first | (obtain ⟨_, rfl, _⟩ := h; rfl) | (obtain ⟨_, _, rfl, _⟩ := h; rfl) | (obtain ⟨_, _, _, rfl, _⟩ := h; rfl) | (obtain ⟨_, _, _, _, rfl, _⟩ := h; rfl) | (obtain ⟨_, _, _, _, _, rfl, _⟩ := h; rfl) | (obtain ⟨_, _, _, _, _, _, rfl, _⟩ := h; rfl) | (obtain ⟨_, _, _, _, _, _, _, rfl, _⟩ := h; rfl))) (fun cdv A outer s H hr => ?_)
  have hu := hr.units
  refine ⟨_, (b_cons (s_set (i := 2) sc_other_side.nd rfl (Or.inl rfl) (q_call (ok_left_corners T) (hr.mono (by decide)) (by rfl) T.m_left_corners T.F_left_corners.kp (bd_left_corners T) (a_cons (q_var 0) a_nil)))
      (b_cons (s_if (k_not (k_val (q_call (ok_can_turn T) (hr.mono (by decide)) (by rfl) T.m_can_turn T.F_can_turn.kp (bd_can_turn T) (a_cons (q_var 2) (a_cons (q_var 1) a_nil))))) (b_one s_never) b_nil)
      (b_one (s_ret (q_callP (ok_side_between T) (hr.mono (by decide)) (by rfl) T.m_side_between T.F_side_between.kp (bd_side_between T) (a_cons (q_ixD hu (q_var 2) (q_var 1)) (a_cons (q_ixD hu (q_var 2) (q_callP (ok_back T) (hr.mono (by decide)) (by rfl) T.m_back T.F_back.kp (bd_back T) (a_cons (q_var 1) a_nil))) a_nil))))))), fun ds M Q h => ?_⟩
  obtain ⟨l, p, q, x, y, ts, rfl, hM, hv, hb, hc, op, oq, ox, oy, h⟩ := h
  walk_at "rd"
  refine ⟨ts, hM, hc.tr op oq ox oy, by rw [hc.len]; decide, fun c hcn => ?_⟩
  obtain ⟨t1, t2⟩ := hc.there hv
  have hD1 : updM M c (.dic (corL (rnds ts))) c = some (.dic (corL (rnds ts))) := updM_same
  have le1 : Le M (updM M c (.dic (corL (rnds ts)))) := Le.new hcn
  generalize updM M c (.dic (corL (rnds ts))) = M1 at hD1 le1 ⊢
  walk_at "rd"
  refine ⟨c, p, q, x, y, _, rfl, hD1, t1, t2, hv, hb, op, oq, ox, oy, ?_⟩
  walk_at "rd"
  refine ⟨c, keyT [p, q], _, _, rfl, (kD_keyT [p, q]).symm, hD1, t1, ?_⟩
  walk_at "rd"
  refine ⟨c, keyT [q, p], _, _, rfl, (kD_keyT [q, p]).symm, hD1, t2, ?_⟩
  walk_at "rd"
  exact Hold.mk ⟨_, le1, h⟩
theorem bd_triangle_of (T : Txt K mg t) : Binds K t.fd_triangle_of ["a", "b", "c"] [] := T.F_triangle_of.binds fun _ _ _ _ _ _ us hl => match us, hl with | [_, _, _], _ => rfl
def S_triangle_of : SpP := fun ds Q => ∃ a b c : Pl, ds = [a.d, b.d, c.d] ∧ a.Ok 140 ∧ b.Ok 140 ∧ c.Ok 140 ∧ tw a b c ≠ 0 ∧ Q (tD (trg a b c))
theorem ok_triangle_of (T : Txt K mg t) : FnOk P w K mg base CX0 3 t.f_triangle_of t.fd_triangle_of ["a", "b", "c"] (spP K S_triangle_of) := by
  refine fnP T.F_triangle_of sc_triangle_of (fun ds Q h => by (first | (obtain ⟨_, rfl, _⟩ := h; rfl) | (obtain ⟨_, _, rfl, _⟩ := h; rfl) | (obtain ⟨_, _, _, rfl, _⟩ := h; rfl) | (obtain ⟨_, _, _, _, rfl, _⟩ := h; rfl) | (obtain ⟨_, _, _, _, _, rfl, _⟩ := h; rfl) | (obtain ⟨_, _, _, _, _, _, rfl, _⟩ := h; rfl) | (obtain ⟨_, _, _, _, _, _, _, rfl, _⟩ := h; rfl))) (fun cdv A outer s H hr => ?_)
  have hu := hr.units
  refine ⟨_, (b_cons (s_set (i := 3) sc_triangle_of.nd rfl (Or.inl rfl) (q_blt c_sorted (by rfl) T.no_sorted boot3_sorted (a_cons (q_lst (a_cons (q_var 0) (a_cons (q_var 1) (a_cons (q_var 2) a_nil)))) a_nil)))
      (b_cons (s_if (k_cmp (o_eq hu) (q_callP (ok_turn T) (hr.mono (by decide)) (by rfl) T.m_turn T.F_turn.kp (bd_turn T) (a_cons (q_ix (q_var 3) q_int) (a_cons (q_ix (q_var 3) q_int) (a_cons (q_ix (q_var 3) q_int) a_nil)))) q_int (nomark _)) (b_one (s_ret (q_tup (a_cons (q_ix (q_var 3) q_int) (a_cons (q_ix (q_var 3) q_int) (a_cons (q_ix (q_var 3) q_int) a_nil)))))) b_nil)
      (b_one (s_ret (q_tup (a_cons (q_ix (q_var 3) q_int) (a_cons (q_ix (q_var 3) q_int) (a_cons (q_ix (q_var 3) q_int) a_nil)))))))), fun ds Q h => ?_⟩
  obtain ⟨a, b, c, rfl, ha, hb, hc, hn, h⟩ := h
  walk_at "rd"
  intro l hl
  refine ⟨l, [a, b, c], rfl, updM_same, by show 3 < 64; decide, fun p qs hp hperm hsort => ?_⟩
  obtain ⟨u, v, w, rfl⟩ := three_of hperm.length_eq
  obtain ⟨ou, ov, ow⟩ := ok_perm3 hperm ha hb hc
  rw [trg_sorted hn hperm hsort] at h
  walk_at "rd"
  refine ⟨_, _, _, .inr (.inr ⟨p, rfl, updM_same⟩), rfl, rfl, ?_⟩
  walk_at "rd"
  refine ⟨_, _, _, .inr (.inr ⟨p, rfl, updM_same⟩), rfl, rfl, ?_⟩
  walk_at "rd"
  refine ⟨_, _, _, .inr (.inr ⟨p, rfl, updM_same⟩), rfl, rfl, ?_⟩
  walk_at "rd"
  refine ⟨ou, ov, ow, ?_⟩
  walk_at "rd"
  refine ite2 (fun k => ?_) (fun k => ?_)
  · rw [if_pos (tsign1 k)] at h
    walk_at "rd"
    refine ⟨_, _, _, .inr (.inr ⟨p, rfl, updM_same⟩), rfl, rfl, ?_⟩
    walk_at "rd"
    refine ⟨_, _, _, .inr (.inr ⟨p, rfl, updM_same⟩), rfl, rfl, ?_⟩
    walk_at "rd"
    refine ⟨_, _, _, .inr (.inr ⟨p, rfl, updM_same⟩), rfl, rfl, ?_⟩
    walk_at "rd"
    exact h
  · rw [if_neg (tsign1n k)] at h
    walk_at "rd"
    refine ⟨_, _, _, .inr (.inr ⟨p, rfl, updM_same⟩), rfl, rfl, ?_⟩
    walk_at "rd"
    refine ⟨_, _, _, .inr (.inr ⟨p, rfl, updM_same⟩), rfl, rfl, ?_⟩
    walk_at "rd"
    refine ⟨_, _, _, .inr (.inr ⟨p, rfl, updM_same⟩), rfl, rfl, ?_⟩
    walk_at "rd"
    exact h
theorem bd_turned_over (T : Txt K mg t) : Binds K t.fd_turned_over ["cover", "side"] [] := T.F_turned_over.binds fun _ _ _ _ _ _ us hl => match us, hl with | [_, _], _ => rfl
def S_turned_over : Sp3 := fun ds M Q => ∃ (l : Addr) (p q x y : Pl) (ts : List (List Pl)), ds = [.ref l, tD [p, q]] ∧ M l = some (.lst (ts.map tD)) ∧ Cvx p q x y ∧ bef p q ∧ Cutt p q x y ts ∧ p.Ok 140 ∧ q.Ok 140 ∧ x.Ok 140 ∧ y.Ok 140 ∧ ∀ r us, M r = none → Cutt x y q p us → us.Pairwise (fun a b => lexP b a = false) → Q (.ref r) (updM M r (.lst (us.map tD)))
theorem ok_turned_over (T : Txt K mg t) : FnOk P w K mg base CX0 5 t.f_turned_over t.fd_turned_over ["cover", "side"] (sp3 K S_turned_over) := by
  refine fn3 T.F_turned_over sc_turned_over (fun ds M Q h => by (first | (obtain ⟨_, rfl, _⟩ := h; rfl) | (obtain ⟨_, _, rfl, _⟩ := h; rfl) | (obtain ⟨_, _, _, rfl, _⟩ := h; rfl) | (obtain ⟨_, _, _, _, rfl, _⟩ := h; rfl) | (obtain ⟨_, _, _, _, _, rfl, _⟩ := h; rfl) | (obtain ⟨_, _, _, _, _, _, rfl, _⟩ := h; rfl) | (obtain ⟨_, _, _, _, _, _, _, rfl, _⟩ := h; rfl))) (fun cdv A outer s H hr => ?_)
  have hu := hr.units
  refine ⟨_, (b_cons (s_set (i := 2) sc_turned_over.nd rfl (Or.inr rfl) (q_call (ok_other_side T) (hr.mono (by decide)) (by rfl) T.m_other_side T.F_other_side.kp (bd_other_side T) (a_cons (q_var 0) (a_cons (q_var 1) a_nil))))
      (b_cons (s_lc (j := 3) (q_lcL (ys := ["side"]) (fs := [1]) rfl (by show compChk (defScope s_turned_over) ["cover", "side", "new", "stay", "come"] _ _ _ _ = true; decide +kernel) (q_var 0) (fun cl C s0 H0 ex => l_one (PW3.pt (k_or (k_cmp (o_notIn hu) (q_ix (q_var 1) q_int) (q_var 0) (by with_unfolding_all rfl)) (k_or1 (k_cmp (o_notIn hu) (q_ix (q_var 1) q_int) (q_var 0) (by with_unfolding_all rfl)))))) (fun cl C s0 H0 ex => (q_var 0))) sc_turned_over.nd rfl (Or.inl rfl))
      (b_cons (s_lc (j := 4) (q_lcT (ys := ["new"]) (fs := [2]) rfl (by show compChk (defScope s_turned_over) ["cover", "side", "new", "stay", "come"] _ _ _ _ = true; decide +kernel) (q_var 1) (fun cl C s0 H0 ex => l_nil) (fun cl C s0 H0 ex => (q_callP (ok_triangle_of T) (hr.mono (by decide)) (by rfl) T.m_triangle_of T.F_triangle_of.kp (bd_triangle_of T) (a_cons (q_ix (q_var 1) q_int) (a_cons (q_ix (q_var 1) q_int) (a_cons (q_var 0) a_nil)))))) sc_turned_over.nd rfl (Or.inl rfl))
      (b_one (s_ret (q_blt (c_sortedT (n := 3) (.inr rfl) hu) (by rfl) T.no_sorted boot3_sorted (a_cons (q_bin o_cat (q_var 3) (q_var 4)) a_nil))))))), fun ds M Q h => ?_⟩
  obtain ⟨l, p, q, x, y, ts, rfl, hM, hv, hb, hc, op, oq, ox, oy, h⟩ := h
  have sl : (1000 : Nat) < sizeLine := by decide
  walk_at "rd"
  refine ⟨l, p, q, x, y, ts, rfl, hM, hv, hb, hc, op, oq, ox, oy, ?_⟩
  walk_at "rd"
  refine ⟨l, _, rfl, hM, by rw [List.length_map, hc.len]; omega, Hold.mk (runLC_inv (fun j acc M4 => M4 = M ∧ acc = []) _ ?_ ?_ ⟨rfl, rfl⟩)⟩
  · rintro j d acc M4 N2 hx2 ⟨rfl, rfl⟩ hN2
    obtain ⟨t, ht, rfl⟩ := trs_at hx2
    obtain ⟨mp, mq⟩ := hc.both (List.mem_of_getElem? ht)
    refine ⟨hM, ?_⟩
    walk_at "rd"
    refine ⟨plain_pls t, ?_⟩
    rw [if_pos rfl, inD_pls, decide_eq_true mp]
    walk_at "rd"
    refine ⟨plain_pls t, ?_⟩
    rw [if_pos rfl, inD_pls, decide_eq_true mq]
    walk_at "rd"
    exact hN2 _ _ ⟨rfl, rfl⟩
  rintro acc M4 ⟨rfl, rfl⟩
  refine ⟨hM, fun u hu' => ?_⟩
  walk_at "rd"
  obtain ⟨o1, o2⟩ := lohi_ok ox oy
  obtain ⟨w1, w2⟩ := lohi_tw hv
  refine ⟨by show 2 < sizeLine; omega, Hold.mk (runLC_inv (fun j acc M5 => M5 = updM M4 u (.lst []) ∧ acc = (([p, q].take j).map (trg (lo x y) (hi x y))).map tD) _ ?_ ?_ ⟨rfl, rfl⟩)⟩
  · rintro j d acc M5 N2 hx2 ⟨rfl, rfl⟩ hN2
    obtain ⟨r, hr, rfl⟩ := pls_at hx2
    have mr : r = p ∨ r = q := by simpa using List.mem_of_getElem? hr
    refine ⟨trivial, ?_⟩
    walk_at "rd"
    refine ⟨o1, o2, by rcases mr with rfl | rfl <;> assumption, by rcases mr with rfl | rfl <;> assumption, ?_⟩
    refine hN2 _ _ ⟨rfl, ?_⟩
    rw [List.take_succ, hr, List.map_append, List.map_append]
    rfl
  rintro acc M5 ⟨rfl, hacc⟩
  have hacc : acc = [trg (lo x y) (hi x y) p, trg (lo x y) (hi x y) q].map tD := hacc
  subst hacc
  refine ⟨trivial, fun v hv' => ?_⟩
  walk_at "rd"
  refine ⟨u, v, _, _, rfl, rfl, updM_old updM_same hv', updM_same, by show 0 + 2 ≤ sizeLine; omega, fun s hs => ?_⟩
  walk_at "rd"
  refine ⟨s, [trg (lo x y) (hi x y) p, trg (lo x y) (hi x y) q], rfl, updM_same, ?_, by show 2 < 64; decide, fun r us hr hperm hsort => ?_⟩
  · intro t ht
    simp only [List.mem_cons, List.not_mem_nil, or_false] at ht
    rcases ht with rfl | rfl
    · exact trg_len w1
    · exact trg_len w2
  have le := (Le.new (o := MO.lst []) hu').trans ((Le.new (o := MO.lst ([trg (lo x y) (hi x y) p, trg (lo x y) (hi x y) q].map tD)) hv').trans (Le.new (o := MO.lst ([] ++ [trg (lo x y) (hi x y) p, trg (lo x y) (hi x y) q].map tD)) hs))
  have hr2 : M4 r = none := by
    cases z : M4 r with
    | none => rfl
    | some o =>
      have z2 := le _ _ z
      rw [show updM (updM (updM M4 u (.lst [])) v (.lst ([trg (lo x y) (hi x y) p, trg (lo x y) (hi x y) q].map tD))) s (.lst ([] ++ [trg (lo x y) (hi x y) p, trg (lo x y) (hi x y) q].map tD)) r = none from hr] at z2
      cases z2
  exact Hold.mk ⟨updM M4 r (.lst (us.map tD)), Le.put le, h r us hr2 (cut_turned hv hperm) hsort⟩
theorem bd_law (T : Txt K mg t) : Binds K t.fd_law ["_law_script"] [] := T.F_law.binds fun _ _ _ _ _ _ us hl => match us, hl with | [_], _ => rfl
abbrev S_law := S_lawB
theorem ok_law (T : Txt K mg t) : FnOk P w K mg base CX0 7 t.f_law t.fd_law ["_law_script"] (spP K S_law) := by
  refine fnP T.F_law sc_law (fun ds Q h => by (first | (obtain ⟨_, rfl, _⟩ := h; rfl) | (obtain ⟨_, _, rfl, _⟩ := h; rfl) | (obtain ⟨_, _, _, rfl, _⟩ := h; rfl) | (obtain ⟨_, _, _, _, rfl, _⟩ := h; rfl) | (obtain ⟨_, _, _, _, _, rfl, _⟩ := h; rfl) | (obtain ⟨_, _, _, _, _, _, rfl, _⟩ := h; rfl) | (obtain ⟨_, _, _, _, _, _, _, rfl, _⟩ := h; rfl))) (fun cdv A outer s H hr => ?_)
  have hu := hr.units
  refine ⟨_, (b_cons (s_asg (q_callP (ok__law_quadrangle T) (hr.mono (by decide)) (by rfl) T.m__law_quadrangle T.F__law_quadrangle.kp (bd__law_quadrangle T) (a_cons (q_var 0) a_nil)) (g_seq rfl (gs_cons (g_name (i := 1) sc_law.nd rfl (Or.inr rfl)) (gs_cons (g_name (i := 2) sc_law.nd rfl (Or.inr rfl)) (gs_cons (g_name (i := 3) sc_law.nd rfl (Or.inr rfl)) (gs_cons (g_name (i := 4) sc_law.nd rfl (Or.inr rfl)) gs_nil))))))
      (b_cons (s_set (i := 5) sc_law.nd rfl (Or.inl rfl) (q_lst (a_cons (q_tup (a_cons (q_blt (c_lo hu rfl) (by rfl) T.no_min boot3_min (a_cons (q_var 1) (a_cons (q_var 2) a_nil))) (a_cons (q_blt (c_hi hu rfl) (by rfl) T.no_max boot3_max (a_cons (q_var 1) (a_cons (q_var 2) a_nil))) a_nil))) (a_cons (q_tup (a_cons (q_blt (c_lo hu rfl) (by rfl) T.no_min boot3_min (a_cons (q_var 3) (a_cons (q_var 4) a_nil))) (a_cons (q_blt (c_hi hu rfl) (by rfl) T.no_max boot3_max (a_cons (q_var 3) (a_cons (q_var 4) a_nil))) a_nil))) a_nil))))
      (b_cons (s_set (i := 6) sc_law.nd rfl (Or.inl rfl) (q_lst (a_cons (q_blt (c_sortedT (n := 3) (.inr rfl) hu) (by rfl) T.no_sorted boot3_sorted (a_cons (q_lst (a_cons (q_callP (ok__law_triangle T) (hr.mono (by decide)) (by rfl) T.m__law_triangle T.F__law_triangle.kp (bd__law_triangle T) (a_cons (q_var 1) (a_cons (q_var 2) (a_cons (q_var 3) a_nil)))) (a_cons (q_callP (ok__law_triangle T) (hr.mono (by decide)) (by rfl) T.m__law_triangle T.F__law_triangle.kp (bd__law_triangle T) (a_cons (q_var 1) (a_cons (q_var 2) (a_cons (q_var 4) a_nil)))) a_nil))) a_nil)) a_nil)))
      (b_cons (s_expr (q_app (q_var 6) (q_blt (c_sortedT (n := 3) (.inr rfl) hu) (by rfl) T.no_sorted boot3_sorted (a_cons (q_lst (a_cons (q_callP (ok__law_triangle T) (hr.mono (by decide)) (by rfl) T.m__law_triangle T.F__law_triangle.kp (bd__law_triangle T) (a_cons (q_var 3) (a_cons (q_var 4) (a_cons (q_var 1) a_nil)))) (a_cons (q_callP (ok__law_triangle T) (hr.mono (by decide)) (by rfl) T.m__law_triangle T.F__law_triangle.kp (bd__law_triangle T) (a_cons (q_var 3) (a_cons (q_var 4) (a_cons (q_var 2) a_nil)))) a_nil))) a_nil)) (pe_bm PySem.F.plainAttrs_list PySem.F.slot_list_append PySem.F.type_list_append mt_append (PE3.dn (q_var 6)) (pa_cons (PE3.dn (q_blt (c_sortedT (n := 3) (.inr rfl) hu) (by rfl) T.no_sorted boot3_sorted (a_cons (q_lst (a_cons (q_callP (ok__law_triangle T) (hr.mono (by decide)) (by rfl) T.m__law_triangle T.F__law_triangle.kp (bd__law_triangle T) (a_cons (q_var 3) (a_cons (q_var 4) (a_cons (q_var 1) a_nil)))) (a_cons (q_callP (ok__law_triangle T) (hr.mono (by decide)) (by rfl) T.m__law_triangle T.F__law_triangle.kp (bd__law_triangle T) (a_cons (q_var 3) (a_cons (q_var 4) (a_cons (q_var 2) a_nil)))) a_nil))) a_nil))) pa_nil))))
      (b_cons (s_lc (j := 7) (q_lcL (ys := ["_law_a", "_law_b", "_law_c", "_law_d"]) (fs := [1, 2, 3, 4]) rfl (by show compChk (defScope s_law) ["_law_script", "_law_a", "_law_b", "_law_c", "_law_d", "_law_sides", "_law_cuts", "_law_highs", "_law_handed", "_law_k", "_law_due"] _ _ _ _ = true; decide +kernel) (q_var 6) (fun cl C s0 H0 ex => l_nil) (fun cl C s0 H0 ex => (q_call (ok__law_measure T) (hr.mono (by decide)) (by rfl) T.m__law_measure T.F__law_measure.kp (bd__law_measure T) (a_cons (q_lst (a_cons (q_var 1) (a_cons (q_var 2) (a_cons (q_var 3) (a_cons (q_var 4) a_nil))))) (a_cons (q_var 0) a_nil))))) sc_law.nd rfl (Or.inl rfl))
      (b_cons (s_if (k_cmp (o_eqLL hu) (q_ix (q_var 7) q_int) (q_ix (q_var 7) q_int) (nomark _)) (b_one (s_ret q_bl)) b_nil)
      (b_cons (s_set (i := 8) sc_law.nd rfl (Or.inl rfl) (q_lst (a_cons (q_typ c_list (by rfl) T.no_list boot3_list (a_cons (q_ix (q_var 6) q_int) a_nil)) (a_cons (q_typ c_list (by rfl) T.no_list boot3_list (a_cons (q_ix (q_var 6) q_int) a_nil)) a_nil))))
      (b_cons (s_forR PassesOwn.never rfl (by rfl) T.no_range (a_cons q_int a_nil) (g_name (i := 9) sc_law.nd rfl (Or.inl rfl)) (b_cons (s_set (i := 10) sc_law.nd rfl (Or.inl rfl) (q_lst a_nil))
      (b_cons (s_if (k_cmp (o_gtLL hu) (q_ix (q_var 7) (q_var 9)) (q_ix (q_var 7) (q_bin o_sub q_int (q_var 9))) (nomark _)) (b_one (s_expr (q_app (q_var 10) (q_ix (q_var 5) (q_var 9)) (pe_bm PySem.F.plainAttrs_list PySem.F.slot_list_append PySem.F.type_list_append mt_append (PE3.dn (q_var 10)) (pa_cons (PE3.dn (q_ix (q_var 5) (q_var 9))) pa_nil))))) b_nil)
      (b_cons (s_if (k_not (k_val (q_call (ok__law_rows T) (hr.mono (by decide)) (by rfl) T.m__law_rows T.F__law_rows.kp (bd__law_rows T) (a_cons (q_call (ok_wrong T) (hr.mono (by decide)) (by rfl) T.m_wrong T.F_wrong.kp (bd_wrong T) (a_cons (q_ix (q_var 8) (q_var 9)) a_nil)) (a_cons (q_var 10) (a_cons q_int a_nil)))))) (b_one (s_ret q_bl)) b_nil)
      (b_one (s_if (k_not (k_val (q_call (ok__law_rows T) (hr.mono (by decide)) (by rfl) T.m__law_rows T.F__law_rows.kp (bd__law_rows T) (a_cons (q_call (ok_turned_over T) (hr.mono (by decide)) (by rfl) T.m_turned_over T.F_turned_over.kp (bd_turned_over T) (a_cons (q_ix (q_var 8) (q_var 9)) (a_cons (q_ix (q_var 5) (q_var 9)) a_nil))) (a_cons (q_ix (q_var 6) (q_bin o_sub q_int (q_var 9))) (a_cons q_int a_nil)))))) (b_one (s_ret q_bl)) b_nil))))))
      (b_one (s_ret (q_cmp (o_eqL22 hu) (q_var 8) (q_var 6) (nomark _)))))))))))), fun ds Q h => ?_⟩
  obtain ⟨ns, rfl, hl, hb, h⟩ := h
  walk_at "rd"
  refine ⟨hb, hl, fun a b c d oa ob oc od hq => ?_⟩
  obtain ⟨w1, w2, w3, w4⟩ := hq.quad
  obtain ⟨x1, x2, x3⟩ := trg_ok w1 oa ob oc
  obtain ⟨y1, y2, y3⟩ := trg_ok w2 oa ob od
  obtain ⟨u1, u2, u3⟩ := trg_ok w3 oc od oa
  obtain ⟨v1, v2, v3⟩ := trg_ok w4 oc od ob
  have sl : (1000 : Nat) < sizeLine := by decide
  walk_at "rd"
  intro p hp
  walk_at "rd"
  refine ⟨oa, ob, oc, w1, ?_⟩
  walk_at "rd"
  refine ⟨oa, ob, od, w2, ?_⟩
  walk_at "rd"
  intro l1 hl1
  refine ⟨l1, [trg a b c, trg a b d], rfl, updM_same, ?_, by show 2 < 64; decide, fun k1 ts hk1 hperm hs1 => ?_⟩
  · intro t ht
    simp only [List.mem_cons, List.not_mem_nil, or_false] at ht
    rcases ht with rfl | rfl
    · exact trg_len w1
    · exact trg_len w2
  walk_at "rd"
  intro q hq1
  have hS : updM (updM (updM (updM noM p (.lst [.tup [(lo a b).d, (hi a b).d], .tup [(lo c d).d, (hi c d).d]])) l1 (.lst [tD (trg a b c), tD (trg a b d)])) k1 (.lst (ts.map tD))) q (.lst [.ref k1]) p = some (.lst ([[lo a b, hi a b], [lo c d, hi c d]].map tD)) := updM_old (updM_old (updM_old updM_same hl1) hk1) hq1
  have h1 : updM (updM (updM (updM noM p (.lst [.tup [(lo a b).d, (hi a b).d], .tup [(lo c d).d, (hi c d).d]])) l1 (.lst [tD (trg a b c), tD (trg a b d)])) k1 (.lst (ts.map tD))) q (.lst [.ref k1]) k1 = some (.lst (ts.map tD)) := updM_old updM_same hq1
  have hC : updM (updM (updM (updM noM p (.lst [.tup [(lo a b).d, (hi a b).d], .tup [(lo c d).d, (hi c d).d]])) l1 (.lst [tD (trg a b c), tD (trg a b d)])) k1 (.lst (ts.map tD))) q (.lst [.ref k1]) q = some (.lst [.ref k1]) := updM_same
  have n1 : k1 ≠ q := fun z => by rw [← z, updM_same] at hq1; cases hq1
  generalize updM (updM (updM (updM noM p (.lst [.tup [(lo a b).d, (hi a b).d], .tup [(lo c d).d, (hi c d).d]])) l1 (.lst [tD (trg a b c), tD (trg a b d)])) k1 (.lst (ts.map tD))) q (.lst [.ref k1]) = M1 at hS h1 hC ⊢
  clear hl1 hk1 hq1
  walk_at "rd"
  refine ⟨⟨q, _, rfl, hC⟩, ?_⟩
  walk_at "rd"
  refine ⟨oc, od, oa, w3, ?_⟩
  walk_at "rd"
  refine ⟨oc, od, ob, w4, ?_⟩
  walk_at "rd"
  intro l2 hl2
  refine ⟨l2, [trg c d a, trg c d b], rfl, updM_same, ?_, by show 2 < 64; decide, fun k2 us hk2 hperm2 hs2 => ?_⟩
  · intro t ht
    simp only [List.mem_cons, List.not_mem_nil, or_false] at ht
    rcases ht with rfl | rfl
    · exact trg_len w3
    · exact trg_len w4
  have pq : p ≠ q := fun z => by rw [z, hC] at hS; cases hS
  have n2 : k2 ≠ q := fun z => by rw [z] at hk2; rw [updM_old hC hl2] at hk2; cases hk2
  refine ⟨q, _, rfl, updM_old (updM_old hC hl2) hk2, by show 1 < sizeLine; omega, ?_⟩
  have hS := updM_old (u := MO.lst (us.map tD)) (updM_old (u := MO.lst [tD (trg c d a), tD (trg c d b)]) hS hl2) hk2
  have h1' := h1
  have h1 := updM_old (u := MO.lst (us.map tD)) (updM_old (u := MO.lst [tD (trg c d a), tD (trg c d b)]) h1 hl2) hk2
  have h2 : updM (updM M1 l2 (.lst [tD (trg c d a), tD (trg c d b)])) k2 (.lst (us.map tD)) k2 = some (.lst (us.map tD)) := updM_same
  have hS := (updM_ne (o := MO.lst ([L3.D.ref k1] ++ [L3.D.ref k2])) pq).trans hS
  have h1 := (updM_ne (o := MO.lst ([L3.D.ref k1] ++ [L3.D.ref k2])) n1).trans h1
  have h2 := (updM_ne (o := MO.lst ([L3.D.ref k1] ++ [L3.D.ref k2])) n2).trans h2
  have hC : updM (updM (updM M1 l2 (.lst [tD (trg c d a), tD (trg c d b)])) k2 (.lst (us.map tD))) q (.lst ([.ref k1] ++ [.ref k2])) q = some (.lst [.ref k1, .ref k2]) := updM_same
  have n12 : k1 ≠ k2 := fun z => by
    rw [← z] at hk2
    rw [updM_old h1' hl2] at hk2
    cases hk2
  generalize updM (updM (updM M1 l2 (.lst [tD (trg c d a), tD (trg c d b)])) k2 (.lst (us.map tD))) q (.lst ([.ref k1] ++ [.ref k2])) = M2 at hS h1 h2 hC ⊢
  clear hl2 hk2
  have nd4 : [a, b, c, d].Nodup := by
    have := hq.quad.nd
    exact ((List.Perm.cons a (.swap c b [d])).nodup_iff).mpr this
  have mem4 : ∀ r, r = a ∨ r = b ∨ r = c ∨ r = d → r ∈ [a, b, c, d] := fun r hr => by simpa using hr
  have ho1 : ∀ t ∈ ts, TriOk t ∧ ∀ r ∈ t, r ∈ [a, b, c, d] := fun t ht => by
    have ht := hperm.mem_iff.mp ht
    simp only [List.mem_cons, List.not_mem_nil, or_false] at ht
    rcases ht with rfl | rfl
    · exact ⟨x1, fun r hr => mem4 r (by rcases x3 r hr with z | z | z <;> simp [z])⟩
    · exact ⟨y1, fun r hr => mem4 r (by rcases y3 r hr with z | z | z <;> simp [z])⟩
  have ho2 : ∀ t ∈ us, TriOk t ∧ ∀ r ∈ t, r ∈ [a, b, c, d] := fun t ht => by
    have ht := hperm2.mem_iff.mp ht
    simp only [List.mem_cons, List.not_mem_nil, or_false] at ht
    rcases ht with rfl | rfl
    · exact ⟨u1, fun r hr => mem4 r (by rcases u3 r hr with z | z | z <;> simp [z])⟩
    · exact ⟨v1, fun r hr => mem4 r (by rcases v3 r hr with z | z | z <;> simp [z])⟩
  have nt1 : ∀ t ∈ ts, t.Nodup := fun t ht => by
    have ht := hperm.mem_iff.mp ht
    simp only [List.mem_cons, List.not_mem_nil, or_false] at ht
    rcases ht with rfl | rfl <;> assumption
  have nt2 : ∀ t ∈ us, t.Nodup := fun t ht => by
    have ht := hperm2.mem_iff.mp ht
    simp only [List.mem_cons, List.not_mem_nil, or_false] at ht
    rcases ht with rfl | rfl <;> assumption
  have l1' : ts.length = 2 := hperm.length_eq
  have l2' : us.length = 2 := hperm2.length_eq
  clear x1 x2 x3 y1 y2 y3 u1 u2 u3 v1 v2 v3 w1 w2 w3 w4
  walk_at "rd"
  refine ⟨q, _, rfl, hC, by show 2 < sizeLine; omega, Hold.mk ⟨hC, ?_⟩⟩
  walk_at "rd"
  intro l3 hl3
  walk_at "rd"
  refine ⟨l3, k1, [a, b, c, d], ts, rfl, updM_same, updM_old h1 hl3, by show 4 < 64; decide, nd4, ho1, by omega, fun r1 qs hr1 hqp hqs => ?_⟩
  rw [← told_is nt1]
  have e1 := fun (x : Addr) (o : MO) (z : M2 x = some o) => updM_old (u := MO.lst ((told31 ts qs).map L3.D.int)) (updM_old (u := MO.lst [a.d, b.d, c.d, d.d]) z hl3) hr1
  have hS := e1 _ _ hS
  have h1 := e1 _ _ h1
  have h2 := e1 _ _ h2
  have hC := e1 _ _ hC
  have hR1 : updM (updM M2 l3 (.lst [a.d, b.d, c.d, d.d])) r1 (.lst ((told31 ts qs).map L3.D.int)) r1 = some (.lst ((told31 ts qs).map L3.D.int)) := updM_same
  clear e1
  generalize updM (updM M2 l3 (.lst [a.d, b.d, c.d, d.d])) r1 (.lst ((told31 ts qs).map L3.D.int)) = M3 at hS h1 h2 hC hR1 ⊢
  clear hl3 hr1
  refine ⟨hC, ?_⟩
  walk_at "rd"
  intro l4 hl4
  walk_at "rd"
  refine ⟨l4, k2, [a, b, c, d], us, rfl, updM_same, updM_old h2 hl4, by show 4 < 64; decide, nd4, ho2, by omega, fun r2 qs2 hr2 hqp2 hqs2 => ?_⟩
  obtain rfl := sorted_uniqP (hqp.trans hqp2.symm) hqs hqs2
  rw [← told_is nt2]
  have e1 := fun (x : Addr) (o : MO) (z : M3 x = some o) => updM_old (u := MO.lst ((told31 us qs).map L3.D.int)) (updM_old (u := MO.lst [a.d, b.d, c.d, d.d]) z hl4) hr2
  have hS := e1 _ _ hS
  have h1 := e1 _ _ h1
  have h2 := e1 _ _ h2
  have hC := e1 _ _ hC
  have hR1 := e1 _ _ hR1
  have hR2 : updM (updM M3 l4 (.lst [a.d, b.d, c.d, d.d])) r2 (.lst ((told31 us qs).map L3.D.int)) r2 = some (.lst ((told31 us qs).map L3.D.int)) := updM_same
  clear e1
  generalize updM (updM M3 l4 (.lst [a.d, b.d, c.d, d.d])) r2 (.lst ((told31 us qs).map L3.D.int)) = M4 at hS h1 h2 hC hR1 hR2 ⊢
  clear hl4 hr2
  refine ⟨hC, fun Hh hHh => ?_⟩
  have hH : updM M4 Hh (.lst ([] ++ [.ref r1] ++ [.ref r2])) Hh = some (.lst [.ref r1, .ref r2]) := updM_same
  have hS := updM_old (u := MO.lst ([] ++ [.ref r1] ++ [.ref r2])) hS hHh
  have h1 := updM_old (u := MO.lst ([] ++ [.ref r1] ++ [.ref r2])) h1 hHh
  have h2 := updM_old (u := MO.lst ([] ++ [.ref r1] ++ [.ref r2])) h2 hHh
  have hC := updM_old (u := MO.lst ([] ++ [.ref r1] ++ [.ref r2])) hC hHh
  have hR1 := updM_old (u := MO.lst ([] ++ [.ref r1] ++ [.ref r2])) hR1 hHh
  have hR2 := updM_old (u := MO.lst ([] ++ [.ref r1] ++ [.ref r2])) hR2 hHh
  generalize updM M4 Hh (.lst ([] ++ [.ref r1] ++ [.ref r2])) = M5 at hS h1 h2 hC hR1 hR2 hH ⊢
  clear hHh
  obtain ⟨⟨X, Y, T0⟩, ne0⟩ := turn_of hq hperm hperm2 hs2 oa ob oc od hqp hqs
  obtain ⟨⟨X', Y', T1⟩, _⟩ := turn_of hq.other hperm2 hperm hs1 oc od oa ob (hqp.trans (List.perm_append_comm (l₁ := [a, b]) (l₂ := [c, d]))) hqs
  walk_at "rd"
  refine ⟨_, _, _, .inr (.inr ⟨Hh, rfl, hH⟩), rfl, rfl, ?_⟩
  walk_at "rd"
  refine ⟨_, _, _, .inr (.inr ⟨Hh, rfl, hH⟩), rfl, rfl, ?_⟩
  walk_at "rd"
  refine ⟨_, _, .of hR1, .of hR2, plain_ints _, plain_ints _, ?_⟩
  rw [eqDs_ints, decide_eq_false (Ne.symm ne0)]
  refine ⟨_, rfl, iteF ?_⟩
  walk_at "rd"
  refine ⟨_, _, _, .inr (.inr ⟨q, rfl, hC⟩), rfl, rfl, ?_⟩
  walk_at "rd"
  refine ⟨_, _, rfl, .of h1, fun g1 hg1 => ?_⟩
  have m1 : k1 ≠ g1 := fun z => by rw [← z, h1] at hg1; cases hg1
  have e1 := fun (x : Addr) (o : MO) (z : M5 x = some o) => updM_old (u := MO.lst (ts.map tD)) z hg1
  have hS := e1 _ _ hS
  have h1 := e1 _ _ h1
  have h2 := e1 _ _ h2
  have hC := e1 _ _ hC
  have hR1 := e1 _ _ hR1
  have hR2 := e1 _ _ hR2
  have hH := e1 _ _ hH
  have hG1 : updM M5 g1 (.lst (ts.map tD)) g1 = some (.lst (ts.map tD)) := updM_same
  clear e1
  generalize updM M5 g1 (.lst (ts.map tD)) = M6 at hS h1 h2 hC hR1 hR2 hH hG1 ⊢
  clear hg1
  walk_at "rd"
  refine ⟨_, _, _, .inr (.inr ⟨q, rfl, hC⟩), rfl, rfl, ?_⟩
  walk_at "rd"
  refine ⟨_, _, rfl, .of h2, fun g2 hg2 => ?_⟩
  have e1 := fun (x : Addr) (o : MO) (z : M6 x = some o) => updM_old (u := MO.lst (us.map tD)) z hg2
  have m2 : k2 ≠ g2 := fun z => by rw [← z] at hg2; rw [h2] at hg2; cases hg2
  have hS := e1 _ _ hS
  have h1 := e1 _ _ h1
  have h2 := e1 _ _ h2
  have hC := e1 _ _ hC
  have hR1 := e1 _ _ hR1
  have hR2 := e1 _ _ hR2
  have hH := e1 _ _ hH
  have hG1 := e1 _ _ hG1
  have hG2 : updM M6 g2 (.lst (us.map tD)) g2 = some (.lst (us.map tD)) := updM_same
  clear e1
  generalize updM M6 g2 (.lst (us.map tD)) = M7 at hS h1 h2 hC hR1 hR2 hH hG1 hG2 ⊢
  clear hg2
  walk_at "rd"
  intro hn hhn
  have e1 := fun (x : Addr) (o : MO) (z : M7 x = some o) => updM_old (u := MO.lst [.ref g1, .ref g2]) z hhn
  have hS := e1 _ _ hS
  have h1 := e1 _ _ h1
  have h2 := e1 _ _ h2
  have hC := e1 _ _ hC
  have hR1 := e1 _ _ hR1
  have hR2 := e1 _ _ hR2
  have hH := e1 _ _ hH
  have hG1 := e1 _ _ hG1
  have hG2 := e1 _ _ hG2
  have hN : updM M7 hn (.lst [.ref g1, .ref g2]) hn = some (.lst [.ref g1, .ref g2]) := updM_same
  clear e1
  generalize updM M7 hn (.lst [.ref g1, .ref g2]) = M8 at hS h1 h2 hC hR1 hR2 hH hG1 hG2 hN ⊢
  clear hhn
  walk_at "rd1"
  walk_at "rd1"
  walk_at "rd1"
  refine runFor_inv (fun i ρ M' => (∃ y1 y2 : Option L3.D, ρ = [some (.frl (ns.map L3.D.int)), some a.d, some b.d, some c.d, some d.d, some (.ref p), some (.ref q), some (.ref Hh), some (.ref hn), y1, y2]) ∧ Le M8 M') _ ?_ ?_ ⟨⟨_, _, rfl⟩, Le.refl _⟩
  · rintro i x ρ M' N hx ⟨⟨y1, y2, rfl⟩, le⟩ hNx
    obtain ⟨hil, rfl⟩ := range_get hx
    obtain ⟨P, V, X, Y, T, U, gT, kU, rT, rU, tn, eS, eG, eK, eH1, eH2, mG, mK, mT, mU⟩ : ∃ P V X Y T U gT kU rT rU, Turn P V X Y T U qs ∧ atI ([[lo a b, hi a b], [lo c d, hi c d]].map tD) (i : Int) = some (tD [P, V]) ∧ atI [L3.D.ref g1, L3.D.ref g2] (i : Int) = some (.ref gT) ∧ atI [L3.D.ref k1, L3.D.ref k2] (1 - (i : Int)) = some (.ref kU) ∧ atI [L3.D.ref r1, L3.D.ref r2] (i : Int) = some (.ref rT) ∧ atI [L3.D.ref r1, L3.D.ref r2] (1 - (i : Int)) = some (.ref rU) ∧ M8 gT = some (.lst (T.map tD)) ∧ M8 kU = some (.lst (U.map tD)) ∧ M8 rT = some (.lst ((told31 T qs).map L3.D.int)) ∧ M8 rU = some (.lst ((told31 U qs).map L3.D.int)) := by
      have hil : i < 2 := hil
      have hi2 : i = 0 ∨ i = 1 := by omega
      rcases hi2 with rfl | rfl
      · exact ⟨lo a b, hi a b, X, Y, ts, us, g1, k2, r1, r2, T0, rfl, rfl, rfl, rfl, rfl, hG1, h2, hR1, hR2⟩
      · exact ⟨lo c d, hi c d, X', Y', us, ts, g2, k1, r2, r1, T1, rfl, rfl, rfl, rfl, rfl, hG2, h1, hR2, hR1⟩
    refine ⟨trivial, ?_⟩
    walk_at "rd"
    intro e he
    have e8 : M8 e = none := by
      cases z : M8 e with
      | none => rfl
      | some o => rw [le _ _ z] at he; cases he
    have le2 : Le M8 (updM M' e (.lst [])) := le.trans (Le.new he)
    have hE : updM M' e (.lst []) e = some (.lst []) := updM_same
    generalize updM M' e (.lst []) = Ma at le2 hE ⊢
    walk_at "rd"
    refine ⟨_, _, _, .inr (.inr ⟨Hh, rfl, le2 _ _ hH⟩), rfl, eH1, ?_⟩
    walk_at "rd"
    refine ⟨_, _, _, .inr (.inr ⟨Hh, rfl, le2 _ _ hH⟩), rfl, eH2, ?_⟩
    walk_at "rd"
    refine ⟨rT, rU, told31 T qs, told31 U qs, rfl, rfl, le2 _ _ mT, le2 _ _ mU, by rw [told_len, told_len], ?_⟩
    rw [tn.lx]
    refine ⟨_, rfl, ite2 (fun k => ?tt) (fun k => ?ff)⟩
    case' tt =>
      walk_at "rd"
      refine ⟨⟨e, _, rfl, hE⟩, ?_⟩
      walk_at "rd"
      refine ⟨_, _, _, .inr (.inr ⟨p, rfl, le2 _ _ hS⟩), rfl, eS, ?_⟩
      walk_at "rd"
      refine ⟨e, _, rfl, hE, by show 0 < sizeLine; omega, ?_⟩
      have le3 : Le M8 (updM Ma e (.lst ([] ++ [tD [P, V]]))) := fun x o z => by rw [updM_ne (fun y => by rw [y, e8] at z; cases z)]; exact le2 _ _ z
      have hE3 : updM Ma e (.lst ([] ++ [tD [P, V]])) e = some (.lst ((if Spo P V X Y then [[P, V]] else []).map tD)) := by rw [if_pos (of_decide_eq_true k)]; exact updM_same
      generalize updM Ma e (.lst ([] ++ [tD [P, V]])) = Mb at le3 hE3 ⊢
    case' ff =>
      have le3 := le2
      have hE3 : Ma e = some (.lst ((if Spo P V X Y then [[P, V]] else []).map tD)) := by rw [if_neg (fun z => k (decide_eq_true z))]; exact hE
      generalize Ma = Mb at le3 hE3 ⊢
    all_goals
      walk_at "rd"
      refine ⟨_, _, _, .inr (.inr ⟨hn, rfl, le3 _ _ hN⟩), rfl, eG, ?_⟩
      walk_at "rd"
      refine ⟨gT, P, V, X, Y, T, rfl, le3 _ _ mG, tn.cv, tn.bf, tn.ct, tn.o1, tn.o2, tn.o3, tn.o4, fun w hw => ?_⟩
      have le4 := le3.trans (Le.new (o := MO.lst ((if Spo P V X Y then [[P, V]] else []).map tD)) hw)
      have hE4 := updM_old (u := MO.lst ((if Spo P V X Y then [[P, V]] else []).map tD)) hE3 hw
      have hW : updM Mb w (.lst ((if Spo P V X Y then [[P, V]] else []).map tD)) w = some (.lst ((if Spo P V X Y then [[P, V]] else []).map tD)) := updM_same
      generalize updM Mb w (.lst ((if Spo P V X Y then [[P, V]] else []).map tD)) = Mc at le4 hE4 hW ⊢
      walk_at "rd"
      refine ⟨w, e, 2, _, rfl, hW, hE4, fun t ht => .inl ⟨rfl, ?len⟩, by split <;> simp, ?_⟩
      case len =>
        split at ht
        · rw [List.mem_singleton.mp ht]; rfl
        · cases ht
      walk_at "rd"
      refine ⟨_, _, _, .inr (.inr ⟨hn, rfl, le4 _ _ hN⟩), rfl, eG, ?_⟩
      walk_at "rd"
      refine ⟨_, _, _, .inr (.inr ⟨p, rfl, le4 _ _ hS⟩), rfl, eS, ?_⟩
      walk_at "rd"
      refine ⟨gT, P, V, X, Y, T, rfl, le4 _ _ mG, tn.cv, tn.bf, tn.ct, tn.o1, tn.o2, tn.o3, tn.o4, fun w2 U2 hw2 hc2 hsU => ?_⟩
      obtain rfl := sorted_uniq (hc2.uniq tn.cu) hsU tn.su
      have le5 := le4.trans (Le.new (o := MO.lst (U2.map tD)) hw2)
      have hW2 : updM Mc w2 (.lst (U2.map tD)) w2 = some (.lst (U2.map tD)) := updM_same
      generalize updM Mc w2 (.lst (U2.map tD)) = Md at le5 hW2 ⊢
      walk_at "rd"
      refine ⟨_, _, _, .inr (.inr ⟨q, rfl, le5 _ _ hC⟩), rfl, eK, ?_⟩
      walk_at "rd"
      refine ⟨w2, kU, 3, U2, rfl, hW2, le5 _ _ mK, fun t ht => .inr ⟨rfl, hc2.len3 t ht⟩, by rw [hc2.len]; decide, ?_⟩
      walk_at "rd"
      exact hNx _ _ ⟨⟨_, _, rfl⟩, le5⟩
  · rintro ρ M' ⟨⟨y1, y2, rfl⟩, le⟩
    refine ⟨trivial, ?_⟩
    walk_at "rd"
    refine ⟨hn, q, g1, g2, k1, k2, _, _, _, _, rfl, rfl, le _ _ hN, le _ _ hC, le _ _ hG1, le _ _ hG2, le _ _ h1, le _ _ h2, Ne.symm m1, Ne.symm m2, plain_tD _, plain_tD _, plain_tD _, plain_tD _, ?_⟩
    rw [eqDs_refl (plain_tD _), eqDs_refl (plain_tD _)]
    exact h
end
theorem all_mk {l : PySem.W.OpenLaw} {w : World} {K : PySem.W.Frag} {h : Heap} {mg : Str → Option Value} {fa : Addr} (X : K.In h) (G : h.Ns mainGlobals mg) (hfa : mg "law" = some (.ref fa))
    {f0 : Addr} {od0 an0 : Option Addr} {sl0 : Array (Option Value)} {oc0 kV0 dc0 pm0 cd0 ct0 : Value}
    {f1 : Addr} {od1 an1 : Option Addr} {sl1 : Array (Option Value)} {oc1 kV1 dc1 pm1 cd1 ct1 : Value}
    {f2 : Addr} {od2 an2 : Option Addr} {sl2 : Array (Option Value)} {oc2 kV2 dc2 pm2 cd2 ct2 : Value}
    {f3 : Addr} {od3 an3 : Option Addr} {sl3 : Array (Option Value)} {oc3 kV3 dc3 pm3 cd3 ct3 : Value}
    {f4 : Addr} {od4 an4 : Option Addr} {sl4 : Array (Option Value)} {oc4 kV4 dc4 pm4 cd4 ct4 : Value}
    {f5 : Addr} {od5 an5 : Option Addr} {sl5 : Array (Option Value)} {oc5 kV5 dc5 pm5 cd5 ct5 : Value}
    {f6 : Addr} {od6 an6 : Option Addr} {sl6 : Array (Option Value)} {oc6 kV6 dc6 pm6 cd6 ct6 : Value}
    {f7 : Addr} {od7 an7 : Option Addr} {sl7 : Array (Option Value)} {oc7 kV7 dc7 pm7 cd7 ct7 : Value}
    {f8 : Addr} {od8 an8 : Option Addr} {sl8 : Array (Option Value)} {oc8 kV8 dc8 pm8 cd8 ct8 : Value}
    {f9 : Addr} {od9 an9 : Option Addr} {sl9 : Array (Option Value)} {oc9 kV9 dc9 pm9 cd9 ct9 : Value}
    {f10 : Addr} {od10 an10 : Option Addr} {sl10 : Array (Option Value)} {oc10 kV10 dc10 pm10 cd10 ct10 : Value}
    {f11 : Addr} {od11 an11 : Option Addr} {sl11 : Array (Option Value)} {oc11 kV11 dc11 pm11 cd11 ct11 : Value}
    {f12 : Addr} {od12 an12 : Option Addr} {sl12 : Array (Option Value)} {oc12 kV12 dc12 pm12 cd12 ct12 : Value}
    {f13 : Addr} {od13 an13 : Option Addr} {sl13 : Array (Option Value)} {oc13 kV13 dc13 pm13 cd13 ct13 : Value}
    {f14 : Addr} {od14 an14 : Option Addr} {sl14 : Array (Option Value)} {oc14 kV14 dc14 pm14 cd14 ct14 : Value}
    {f15 : Addr} {od15 an15 : Option Addr} {sl15 : Array (Option Value)} {oc15 kV15 dc15 pm15 cd15 ct15 : Value}
    {f16 : Addr} {od16 an16 : Option Addr} {sl16 : Array (Option Value)} {oc16 kV16 dc16 pm16 cd16 ct16 : Value}
    {f17 : Addr} {od17 an17 : Option Addr} {sl17 : Array (Option Value)} {oc17 kV17 dc17 pm17 cd17 ct17 : Value}
    {f18 : Addr} {od18 an18 : Option Addr} {sl18 : Array (Option Value)} {oc18 kV18 dc18 pm18 cd18 ct18 : Value}
    {f19 : Addr} {od19 an19 : Option Addr} {sl19 : Array (Option Value)} {oc19 kV19 dc19 pm19 cd19 ct19 : Value}
    {f20 : Addr} {od20 an20 : Option Addr} {sl20 : Array (Option Value)} {oc20 kV20 dc20 pm20 cd20 ct20 : Value}
    {f21 : Addr} {od21 an21 : Option Addr} {sl21 : Array (Option Value)} {oc21 kV21 dc21 pm21 cd21 ct21 : Value}
    {f22 : Addr} {od22 an22 : Option Addr} {sl22 : Array (Option Value)} {oc22 kV22 dc22 pm22 cd22 ct22 : Value}
    {f23 : Addr} {od23 an23 : Option Addr} {sl23 : Array (Option Value)} {oc23 kV23 dc23 pm23 cd23 ct23 : Value}
    {f24 : Addr} {od24 an24 : Option Addr} {sl24 : Array (Option Value)} {oc24 kV24 dc24 pm24 cd24 ct24 : Value}
    {f25 : Addr} {od25 an25 : Option Addr} {sl25 : Array (Option Value)} {oc25 kV25 dc25 pm25 cd25 ct25 : Value}
    {f26 : Addr} {od26 an26 : Option Addr} {sl26 : Array (Option Value)} {oc26 kV26 dc26 pm26 cd26 ct26 : Value}
    {f27 : Addr} {od27 an27 : Option Addr} {sl27 : Array (Option Value)} {oc27 kV27 dc27 pm27 cd27 ct27 : Value}
    {f28 : Addr} {od28 an28 : Option Addr} {sl28 : Array (Option Value)} {oc28 kV28 dc28 pm28 cd28 ct28 : Value}
    (a0 : PySem.W.nsIn K mainGlobals "_law_at" = some (some (.ref f0))) (l0 : K.lookup f0 = some ⟨oc0, od0, .func (PySem.W.fnOf "_law_at" "_law_at" (defArgs s__law_at) (defBody s__law_at) (defScope s__law_at) .none kV0 dc0 pm0 an0 cd0 ct0), sl0⟩) (c0 : PySem.W.codeIn K cd0 "_law_at" = true) (k0 : PySem.W.keepIn K (.ref f0) = true)
    (a1 : PySem.W.nsIn K mainGlobals "_law_spot" = some (some (.ref f1))) (l1 : K.lookup f1 = some ⟨oc1, od1, .func (PySem.W.fnOf "_law_spot" "_law_spot" (defArgs s__law_spot) (defBody s__law_spot) (defScope s__law_spot) .none kV1 dc1 pm1 an1 cd1 ct1), sl1⟩) (c1 : PySem.W.codeIn K cd1 "_law_spot" = true) (k1 : PySem.W.keepIn K (.ref f1) = true)
    (a2 : PySem.W.nsIn K mainGlobals "_law_twice" = some (some (.ref f2))) (l2 : K.lookup f2 = some ⟨oc2, od2, .func (PySem.W.fnOf "_law_twice" "_law_twice" (defArgs s__law_twice) (defBody s__law_twice) (defScope s__law_twice) .none kV2 dc2 pm2 an2 cd2 ct2), sl2⟩) (c2 : PySem.W.codeIn K cd2 "_law_twice" = true) (k2 : PySem.W.keepIn K (.ref f2) = true)
    (a3 : PySem.W.nsIn K mainGlobals "_law_quadrangle" = some (some (.ref f3))) (l3 : K.lookup f3 = some ⟨oc3, od3, .func (PySem.W.fnOf "_law_quadrangle" "_law_quadrangle" (defArgs s__law_quadrangle) (defBody s__law_quadrangle) (defScope s__law_quadrangle) .none kV3 dc3 pm3 an3 cd3 ct3), sl3⟩) (c3 : PySem.W.codeIn K cd3 "_law_quadrangle" = true) (k3 : PySem.W.keepIn K (.ref f3) = true)
    (a4 : PySem.W.nsIn K mainGlobals "_law_measure" = some (some (.ref f4))) (l4 : K.lookup f4 = some ⟨oc4, od4, .func (PySem.W.fnOf "_law_measure" "_law_measure" (defArgs s__law_measure) (defBody s__law_measure) (defScope s__law_measure) .none kV4 dc4 pm4 an4 cd4 ct4), sl4⟩) (c4 : PySem.W.codeIn K cd4 "_law_measure" = true) (k4 : PySem.W.keepIn K (.ref f4) = true)
    (a5 : PySem.W.nsIn K mainGlobals "_law_int" = some (some (.ref f5))) (l5 : K.lookup f5 = some ⟨oc5, od5, .func (PySem.W.fnOf "_law_int" "_law_int" (defArgs s__law_int) (defBody s__law_int) (defScope s__law_int) .none kV5 dc5 pm5 an5 cd5 ct5), sl5⟩) (c5 : PySem.W.codeIn K cd5 "_law_int" = true) (k5 : PySem.W.keepIn K (.ref f5) = true)
    (a6 : PySem.W.nsIn K mainGlobals "_law_places_of" = some (some (.ref f6))) (l6 : K.lookup f6 = some ⟨oc6, od6, .func (PySem.W.fnOf "_law_places_of" "_law_places_of" (defArgs s__law_places_of) (defBody s__law_places_of) (defScope s__law_places_of) .none kV6 dc6 pm6 an6 cd6 ct6), sl6⟩) (c6 : PySem.W.codeIn K cd6 "_law_places_of" = true) (k6 : PySem.W.keepIn K (.ref f6) = true)
    (a7 : PySem.W.nsIn K mainGlobals "_law_rows" = some (some (.ref f7))) (l7 : K.lookup f7 = some ⟨oc7, od7, .func (PySem.W.fnOf "_law_rows" "_law_rows" (defArgs s__law_rows) (defBody s__law_rows) (defScope s__law_rows) .none kV7 dc7 pm7 an7 cd7 ct7), sl7⟩) (c7 : PySem.W.codeIn K cd7 "_law_rows" = true) (k7 : PySem.W.keepIn K (.ref f7) = true)
    (a8 : PySem.W.nsIn K mainGlobals "_law_triangle" = some (some (.ref f8))) (l8 : K.lookup f8 = some ⟨oc8, od8, .func (PySem.W.fnOf "_law_triangle" "_law_triangle" (defArgs s__law_triangle) (defBody s__law_triangle) (defScope s__law_triangle) .none kV8 dc8 pm8 an8 cd8 ct8), sl8⟩) (c8 : PySem.W.codeIn K cd8 "_law_triangle" = true) (k8 : PySem.W.keepIn K (.ref f8) = true)
    (a9 : PySem.W.nsIn K mainGlobals "rounds" = some (some (.ref f9))) (l9 : K.lookup f9 = some ⟨oc9, od9, .func (PySem.W.fnOf "rounds" "rounds" (defArgs s_rounds) (defBody s_rounds) (defScope s_rounds) .none kV9 dc9 pm9 an9 cd9 ct9), sl9⟩) (c9 : PySem.W.codeIn K cd9 "rounds" = true) (k9 : PySem.W.keepIn K (.ref f9) = true)
    (a10 : PySem.W.nsIn K mainGlobals "left_corners" = some (some (.ref f10))) (l10 : K.lookup f10 = some ⟨oc10, od10, .func (PySem.W.fnOf "left_corners" "left_corners" (defArgs s_left_corners) (defBody s_left_corners) (defScope s_left_corners) .none kV10 dc10 pm10 an10 cd10 ct10), sl10⟩) (c10 : PySem.W.codeIn K cd10 "left_corners" = true) (k10 : PySem.W.keepIn K (.ref f10) = true)
    (a11 : PySem.W.nsIn K mainGlobals "side_between" = some (some (.ref f11))) (l11 : K.lookup f11 = some ⟨oc11, od11, .func (PySem.W.fnOf "side_between" "side_between" (defArgs s_side_between) (defBody s_side_between) (defScope s_side_between) .none kV11 dc11 pm11 an11 cd11 ct11), sl11⟩) (c11 : PySem.W.codeIn K cd11 "side_between" = true) (k11 : PySem.W.keepIn K (.ref f11) = true)
    (a12 : PySem.W.nsIn K mainGlobals "directed_sides" = some (some (.ref f12))) (l12 : K.lookup f12 = some ⟨oc12, od12, .func (PySem.W.fnOf "directed_sides" "directed_sides" (defArgs s_directed_sides) (defBody s_directed_sides) (defScope s_directed_sides) .none kV12 dc12 pm12 an12 cd12 ct12), sl12⟩) (c12 : PySem.W.codeIn K cd12 "directed_sides" = true) (k12 : PySem.W.keepIn K (.ref f12) = true)
    (a13 : PySem.W.nsIn K mainGlobals "sides_of" = some (some (.ref f13))) (l13 : K.lookup f13 = some ⟨oc13, od13, .func (PySem.W.fnOf "sides_of" "sides_of" (defArgs s_sides_of) (defBody s_sides_of) (defScope s_sides_of) .none kV13 dc13 pm13 an13 cd13 ct13), sl13⟩) (c13 : PySem.W.codeIn K cd13 "sides_of" = true) (k13 : PySem.W.keepIn K (.ref f13) = true)
    (a14 : PySem.W.nsIn K mainGlobals "twice" = some (some (.ref f14))) (l14 : K.lookup f14 = some ⟨oc14, od14, .func (PySem.W.fnOf "twice" "twice" (defArgs s_twice) (defBody s_twice) (defScope s_twice) .none kV14 dc14 pm14 an14 cd14 ct14), sl14⟩) (c14 : PySem.W.codeIn K cd14 "twice" = true) (k14 : PySem.W.keepIn K (.ref f14) = true)
    (a15 : PySem.W.nsIn K mainGlobals "ring_area" = some (some (.ref f15))) (l15 : K.lookup f15 = some ⟨oc15, od15, .func (PySem.W.fnOf "ring_area" "ring_area" (defArgs s_ring_area) (defBody s_ring_area) (defScope s_ring_area) .none kV15 dc15 pm15 an15 cd15 ct15), sl15⟩) (c15 : PySem.W.codeIn K cd15 "ring_area" = true) (k15 : PySem.W.keepIn K (.ref f15) = true)
    (a16 : PySem.W.nsIn K mainGlobals "sign" = some (some (.ref f16))) (l16 : K.lookup f16 = some ⟨oc16, od16, .func (PySem.W.fnOf "sign" "sign" (defArgs s_sign) (defBody s_sign) (defScope s_sign) .none kV16 dc16 pm16 an16 cd16 ct16), sl16⟩) (c16 : PySem.W.codeIn K cd16 "sign" = true) (k16 : PySem.W.keepIn K (.ref f16) = true)
    (a17 : PySem.W.nsIn K mainGlobals "apart" = some (some (.ref f17))) (l17 : K.lookup f17 = some ⟨oc17, od17, .func (PySem.W.fnOf "apart" "apart" (defArgs s_apart) (defBody s_apart) (defScope s_apart) .none kV17 dc17 pm17 an17 cd17 ct17), sl17⟩) (c17 : PySem.W.codeIn K cd17 "apart" = true) (k17 : PySem.W.keepIn K (.ref f17) = true)
    (a18 : PySem.W.nsIn K mainGlobals "ring" = some (some (.ref f18))) (l18 : K.lookup f18 = some ⟨oc18, od18, .func (PySem.W.fnOf "ring" "ring" (defArgs s_ring) (defBody s_ring) (defScope s_ring) .none kV18 dc18 pm18 an18 cd18 ct18), sl18⟩) (c18 : PySem.W.codeIn K cd18 "ring" = true) (k18 : PySem.W.keepIn K (.ref f18) = true)
    (a19 : PySem.W.nsIn K mainGlobals "turn" = some (some (.ref f19))) (l19 : K.lookup f19 = some ⟨oc19, od19, .func (PySem.W.fnOf "turn" "turn" (defArgs s_turn) (defBody s_turn) (defScope s_turn) .none kV19 dc19 pm19 an19 cd19 ct19), sl19⟩) (c19 : PySem.W.codeIn K cd19 "turn" = true) (k19 : PySem.W.keepIn K (.ref f19) = true)
    (a20 : PySem.W.nsIn K mainGlobals "spoils" = some (some (.ref f20))) (l20 : K.lookup f20 = some ⟨oc20, od20, .func (PySem.W.fnOf "spoils" "spoils" (defArgs s_spoils) (defBody s_spoils) (defScope s_spoils) .none kV20 dc20 pm20 an20 cd20 ct20), sl20⟩) (c20 : PySem.W.codeIn K cd20 "spoils" = true) (k20 : PySem.W.keepIn K (.ref f20) = true)
    (a21 : PySem.W.nsIn K mainGlobals "back" = some (some (.ref f21))) (l21 : K.lookup f21 = some ⟨oc21, od21, .func (PySem.W.fnOf "back" "back" (defArgs s_back) (defBody s_back) (defScope s_back) .none kV21 dc21 pm21 an21 cd21 ct21), sl21⟩) (c21 : PySem.W.codeIn K cd21 "back" = true) (k21 : PySem.W.keepIn K (.ref f21) = true)
    (a22 : PySem.W.nsIn K mainGlobals "is_wrong" = some (some (.ref f22))) (l22 : K.lookup f22 = some ⟨oc22, od22, .func (PySem.W.fnOf "is_wrong" "is_wrong" (defArgs s_is_wrong) (defBody s_is_wrong) (defScope s_is_wrong) .none kV22 dc22 pm22 an22 cd22 ct22), sl22⟩) (c22 : PySem.W.codeIn K cd22 "is_wrong" = true) (k22 : PySem.W.keepIn K (.ref f22) = true)
    (a23 : PySem.W.nsIn K mainGlobals "wrong" = some (some (.ref f23))) (l23 : K.lookup f23 = some ⟨oc23, od23, .func (PySem.W.fnOf "wrong" "wrong" (defArgs s_wrong) (defBody s_wrong) (defScope s_wrong) .none kV23 dc23 pm23 an23 cd23 ct23), sl23⟩) (c23 : PySem.W.codeIn K cd23 "wrong" = true) (k23 : PySem.W.keepIn K (.ref f23) = true)
    (a24 : PySem.W.nsIn K mainGlobals "can_turn" = some (some (.ref f24))) (l24 : K.lookup f24 = some ⟨oc24, od24, .func (PySem.W.fnOf "can_turn" "can_turn" (defArgs s_can_turn) (defBody s_can_turn) (defScope s_can_turn) .none kV24 dc24 pm24 an24 cd24 ct24), sl24⟩) (c24 : PySem.W.codeIn K cd24 "can_turn" = true) (k24 : PySem.W.keepIn K (.ref f24) = true)
    (a25 : PySem.W.nsIn K mainGlobals "other_side" = some (some (.ref f25))) (l25 : K.lookup f25 = some ⟨oc25, od25, .func (PySem.W.fnOf "other_side" "other_side" (defArgs s_other_side) (defBody s_other_side) (defScope s_other_side) .none kV25 dc25 pm25 an25 cd25 ct25), sl25⟩) (c25 : PySem.W.codeIn K cd25 "other_side" = true) (k25 : PySem.W.keepIn K (.ref f25) = true)
    (a26 : PySem.W.nsIn K mainGlobals "triangle_of" = some (some (.ref f26))) (l26 : K.lookup f26 = some ⟨oc26, od26, .func (PySem.W.fnOf "triangle_of" "triangle_of" (defArgs s_triangle_of) (defBody s_triangle_of) (defScope s_triangle_of) .none kV26 dc26 pm26 an26 cd26 ct26), sl26⟩) (c26 : PySem.W.codeIn K cd26 "triangle_of" = true) (k26 : PySem.W.keepIn K (.ref f26) = true)
    (a27 : PySem.W.nsIn K mainGlobals "turned_over" = some (some (.ref f27))) (l27 : K.lookup f27 = some ⟨oc27, od27, .func (PySem.W.fnOf "turned_over" "turned_over" (defArgs s_turned_over) (defBody s_turned_over) (defScope s_turned_over) .none kV27 dc27 pm27 an27 cd27 ct27), sl27⟩) (c27 : PySem.W.codeIn K cd27 "turned_over" = true) (k27 : PySem.W.keepIn K (.ref f27) = true)
    (a28 : PySem.W.nsIn K mainGlobals "law" = some (some (.ref f28))) (l28 : K.lookup f28 = some ⟨oc28, od28, .func (PySem.W.fnOf "law" "law" (defArgs s_law) (defBody s_law) (defScope s_law) .none kV28 dc28 pm28 an28 cd28 ct28), sl28⟩) (c28 : PySem.W.codeIn K cd28 "law" = true) (k28 : PySem.W.keepIn K (.ref f28) = true)
    (z0 : PySem.W.nsIn K mainGlobals "range" = some none)
    (z1 : PySem.W.nsIn K mainGlobals "sorted" = some none)
    (z2 : PySem.W.nsIn K mainGlobals "len" = some none)
    (z3 : PySem.W.nsIn K mainGlobals "isinstance" = some none)
    (z4 : PySem.W.nsIn K mainGlobals "int" = some none)
    (z5 : PySem.W.nsIn K mainGlobals "tuple" = some none)
    (z6 : PySem.W.nsIn K mainGlobals "list" = some none)
    (z7 : PySem.W.nsIn K mainGlobals "min" = some none)
    (z8 : PySem.W.nsIn K mainGlobals "max" = some none)
    (z9 : PySem.W.nsIn K mainGlobals "set" = some none) :
    ∃ fd : FuncData, (∀ (s : Shared) (v : Value), BindsTo s fd ⟨[v], []⟩ [("_law_script", v)]) ∧ ∀ base : Heap, K.In base → base.Ns mainGlobals mg → FnOk l.prog w K mg base CX0 7 fa fd ["_law_script"] (spP K S_law) := by
  have e := hfa.symm.trans (PySem.W.mg_of X G a28)
  cases e
  have T : Txt K mg ⟨_, _, _, _, _, _, _, _, _, _, _, _, _, _, _, _, _, _, _, _, _, _, _, _, _, _, _, _, _, _, _, _, _, _, _, _, _, _, _, _, _, _, _, _, _, _, _, _, _, _, _, _, _, _, _, _, _, _⟩ := ⟨fun_mk (st := s__law_at) l0 c0 k0, PySem.W.mg_of X G a0, fun_mk (st := s__law_spot) l1 c1 k1, PySem.W.mg_of X G a1, fun_mk (st := s__law_twice) l2 c2 k2, PySem.W.mg_of X G a2, fun_mk (st := s__law_quadrangle) l3 c3 k3, PySem.W.mg_of X G a3, fun_mk (st := s__law_measure) l4 c4 k4, PySem.W.mg_of X G a4, fun_mk (st := s__law_int) l5 c5 k5, PySem.W.mg_of X G a5, fun_mk (st := s__law_places_of) l6 c6 k6, PySem.W.mg_of X G a6, fun_mk (st := s__law_rows) l7 c7 k7, PySem.W.mg_of X G a7, fun_mk (st := s__law_triangle) l8 c8 k8, PySem.W.mg_of X G a8, fun_mk (st := s_rounds) l9 c9 k9, PySem.W.mg_of X G a9, fun_mk (st := s_left_corners) l10 c10 k10, PySem.W.mg_of X G a10, fun_mk (st := s_side_between) l11 c11 k11, PySem.W.mg_of X G a11, fun_mk (st := s_directed_sides) l12 c12 k12, PySem.W.mg_of X G a12, fun_mk (st := s_sides_of) l13 c13 k13, PySem.W.mg_of X G a13, fun_mk (st := s_twice) l14 c14 k14, PySem.W.mg_of X G a14, fun_mk (st := s_ring_area) l15 c15 k15, PySem.W.mg_of X G a15, fun_mk (st := s_sign) l16 c16 k16, PySem.W.mg_of X G a16, fun_mk (st := s_apart) l17 c17 k17, PySem.W.mg_of X G a17, fun_mk (st := s_ring) l18 c18 k18, PySem.W.mg_of X G a18, fun_mk (st := s_turn) l19 c19 k19, PySem.W.mg_of X G a19, fun_mk (st := s_spoils) l20 c20 k20, PySem.W.mg_of X G a20, fun_mk (st := s_back) l21 c21 k21, PySem.W.mg_of X G a21, fun_mk (st := s_is_wrong) l22 c22 k22, PySem.W.mg_of X G a22, fun_mk (st := s_wrong) l23 c23 k23, PySem.W.mg_of X G a23, fun_mk (st := s_can_turn) l24 c24 k24, PySem.W.mg_of X G a24, fun_mk (st := s_other_side) l25 c25 k25, PySem.W.mg_of X G a25, fun_mk (st := s_triangle_of) l26 c26 k26, PySem.W.mg_of X G a26, fun_mk (st := s_turned_over) l27 c27 k27, PySem.W.mg_of X G a27, fun_mk (st := s_law) l28 c28 k28, PySem.W.mg_of X G a28, PySem.W.mg_none_of X G z0, PySem.W.mg_none_of X G z1, PySem.W.mg_none_of X G z2, PySem.W.mg_none_of X G z3, PySem.W.mg_none_of X G z4, PySem.W.mg_none_of X G z5, PySem.W.mg_none_of X G z6, PySem.W.mg_none_of X G z7, PySem.W.mg_none_of X G z8, PySem.W.mg_none_of X G z9⟩
  exact ⟨_, fun s v => .of_eq rfl, fun base _ _ => ok_law T⟩
end Pf
open PySem PySem.W PyProof.Rows
set_option maxRecDepth 100000 in
set_option maxHeartbeats 0 in
theorem PySem.Challenge.cw_nearland_k32_two_cuts_holds : PySem.Challenge.rw_nearland_k32_two_cuts.Holds := by
  w_on; o_law; k_head; (case hw => w_witness2)
  k_fill
  refine L2.walk_ofB (l := PySem.Challenge.rw_nearland_k32_two_cuts) (n := 63) (k := 7) (x := "_law_script") (CX := L2.CX0) (sp := fun K => L3.spP K Pf.S_law) rfl (by decide) rfl ⟨rfl, by decide, by decide⟩ (fun w h Y => PySem.W.kIn_of Y) ?F (fun K H a ns hl hb hO hS => L3.law_spB hl hb hO hS) (fun _ _ _ _ z => z)
  case F =>
    intro w mg fa h KX G hmg
    refine' Pf.all_mk KX G hmg ?a0 ?l0 ?c0 ?k0 ?a1 ?l1 ?c1 ?k1 ?a2 ?l2 ?c2 ?k2 ?a3 ?l3 ?c3 ?k3 ?a4 ?l4 ?c4 ?k4 ?a5 ?l5 ?c5 ?k5 ?a6 ?l6 ?c6 ?k6 ?a7 ?l7 ?c7 ?k7 ?a8 ?l8 ?c8 ?k8 ?a9 ?l9 ?c9 ?k9 ?a10 ?l10 ?c10 ?k10 ?a11 ?l11 ?c11 ?k11 ?a12 ?l12 ?c12 ?k12 ?a13 ?l13 ?c13 ?k13 ?a14 ?l14 ?c14 ?k14 ?a15 ?l15 ?c15 ?k15 ?a16 ?l16 ?c16 ?k16 ?a17 ?l17 ?c17 ?k17 ?a18 ?l18 ?c18 ?k18 ?a19 ?l19 ?c19 ?k19 ?a20 ?l20 ?c20 ?k20 ?a21 ?l21 ?c21 ?k21 ?a22 ?l22 ?c22 ?k22 ?a23 ?l23 ?c23 ?k23 ?a24 ?l24 ?c24 ?k24 ?a25 ?l25 ?c25 ?k25 ?a26 ?l26 ?c26 ?k26 ?a27 ?l27 ?c27 ?k27 ?a28 ?l28 ?c28 ?k28 ?z0 ?z1 ?z2 ?z3 ?z4 ?z5 ?z6 ?z7 ?z8 ?z9
    (case a0 => k_is)
    (case l0 => k_is)
    (case c0 => k_is)
    (case k0 => k_is)
    (case a1 => k_is)
    (case l1 => k_is)
    (case c1 => k_is)
    (case k1 => k_is)
    (case a2 => k_is)
    (case l2 => k_is)
    (case c2 => k_is)
    (case k2 => k_is)
    (case a3 => k_is)
    (case l3 => k_is)
    (case c3 => k_is)
    (case k3 => k_is)
    (case a4 => k_is)
    (case l4 => k_is)
    (case c4 => k_is)
    (case k4 => k_is)
    (case a5 => k_is)
    (case l5 => k_is)
    (case c5 => k_is)
    (case k5 => k_is)
    (case a6 => k_is)
    (case l6 => k_is)
    (case c6 => k_is)
    (case k6 => k_is)
    (case a7 => k_is)
    (case l7 => k_is)
    (case c7 => k_is)
    (case k7 => k_is)
    (case a8 => k_is)
    (case l8 => k_is)
    (case c8 => k_is)
    (case k8 => k_is)
    (case a9 => k_is)
    (case l9 => k_is)
    (case c9 => k_is)
    (case k9 => k_is)
    (case a10 => k_is)
    (case l10 => k_is)
    (case c10 => k_is)
    (case k10 => k_is)
    (case a11 => k_is)
    (case l11 => k_is)
    (case c11 => k_is)
    (case k11 => k_is)
    (case a12 => k_is)
    (case l12 => k_is)
    (case c12 => k_is)
    (case k12 => k_is)
    (case a13 => k_is)
    (case l13 => k_is)
    (case c13 => k_is)
    (case k13 => k_is)
    (case a14 => k_is)
    (case l14 => k_is)
    (case c14 => k_is)
    (case k14 => k_is)
    (case a15 => k_is)
    (case l15 => k_is)
    (case c15 => k_is)
    (case k15 => k_is)
    (case a16 => k_is)
    (case l16 => k_is)
    (case c16 => k_is)
    (case k16 => k_is)
    (case a17 => k_is)
    (case l17 => k_is)
    (case c17 => k_is)
    (case k17 => k_is)
    (case a18 => k_is)
    (case l18 => k_is)
    (case c18 => k_is)
    (case k18 => k_is)
    (case a19 => k_is)
    (case l19 => k_is)
    (case c19 => k_is)
    (case k19 => k_is)
    (case a20 => k_is)
    (case l20 => k_is)
    (case c20 => k_is)
    (case k20 => k_is)
    (case a21 => k_is)
    (case l21 => k_is)
    (case c21 => k_is)
    (case k21 => k_is)
    (case a22 => k_is)
    (case l22 => k_is)
    (case c22 => k_is)
    (case k22 => k_is)
    (case a23 => k_is)
    (case l23 => k_is)
    (case c23 => k_is)
    (case k23 => k_is)
    (case a24 => k_is)
    (case l24 => k_is)
    (case c24 => k_is)
    (case k24 => k_is)
    (case a25 => k_is)
    (case l25 => k_is)
    (case c25 => k_is)
    (case k25 => k_is)
    (case a26 => k_is)
    (case l26 => k_is)
    (case c26 => k_is)
    (case k26 => k_is)
    (case a27 => k_is)
    (case l27 => k_is)
    (case c27 => k_is)
    (case k27 => k_is)
    (case a28 => k_is)
    (case l28 => k_is)
    (case c28 => k_is)
    (case k28 => k_is)
    (case z0 => k_is)
    (case z1 => k_is)
    (case z2 => k_is)
    (case z3 => k_is)
    (case z4 => k_is)
    (case z5 => k_is)
    (case z6 => k_is)
    (case z7 => k_is)
    (case z8 => k_is)
    (case z9 => k_is)

