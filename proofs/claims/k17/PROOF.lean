import PyProof.Rows.All
import Wide.All
import OpenK.AllK
import Wide.FinOn
import Lean
import PyProof.EqAt
import PyProof.EqKinds
import PyProof.TupleCall
import PySem.Challenge.RW_nearland_k17_nearer
set_option Elab.async false
set_option linter.all false
set_option maxRecDepth 100000
/-! THE HAND LAYER, for ints, bools, texts, own classes, LISTS and tuples (index, slices, in, append, pop ..), calls, loops. Paste it whole ahead of your own text; what your proof does not reach may be deleted. -/
namespace L2
open PySem PySem.Spec PyProof.Rows

/-- a key: an int or a str -/
abbrev Key := Sum Int Str
def keyIs : Key → Value → Bool
  | .inl k, v => Value.isInt k v
  | .inr x, v => Value.isStrOf x v
def keyH (w : World) : Key → Int
  | .inl k => hashInt k
  | .inr x => hashStr w x
theorem keyIs_shape : ∀ {k : Key} {v : Value}, keyIs k v = true → (∃ i t, k = Sum.inl i ∧ v = Value.int i t) ∨ (∃ x t, k = Sum.inr x ∧ v = Value.str x t)
  | .inl i, v, h => by
    obtain ⟨t, e⟩ := Value.isInt_shape (k := i) (v := v) h
    exact .inl ⟨i, t, rfl, e⟩
  | .inr x, v, h => by
    obtain ⟨t, e⟩ := Value.isStrOf_shape (x := x) (v := v) h
    exact .inr ⟨x, t, rfl, e⟩
theorem keyIs_int (i : Int) (t : Tok) : keyIs (.inl i) (.int i t) = true := by simp [keyIs, Value.isInt]
theorem keyIs_str (x : Str) (t : Tok) : keyIs (.inr x) (.str x t) = true := by simp [keyIs, Value.isStrOf]
theorem key_ll (a b : Int) : decide ((Sum.inl a : Key) = Sum.inl b) = (a == b) := by
  by_cases e : a = b
  · subst e; simp
  · have h : ¬ (Sum.inl a : Key) = Sum.inl b := fun q => e (Sum.inl.inj q)
    rw [decide_eq_false h]
    exact (beq_eq_false_iff_ne.mpr e).symm
theorem key_rr (a b : Str) : decide ((Sum.inr a : Key) = Sum.inr b) = decide (a = b) := by
  by_cases e : a = b
  · subst e; simp
  · have h : ¬ (Sum.inr a : Key) = Sum.inr b := fun q => e (Sum.inr.inj q)
    rw [decide_eq_false h, decide_eq_false e]
theorem key_lr (a : Int) (b : Str) : decide ((Sum.inl a : Key) = Sum.inr b) = false := decide_eq_false (fun q => nomatch q)
theorem key_rl (a : Str) (b : Int) : decide ((Sum.inr a : Key) = Sum.inl b) = false := decide_eq_false (fun q => nomatch q)

def mixKind (prog : Program) (w : World) : PySem.KeyKind prog w Key where
  is := keyIs
  hash := keyH w
  inj := fun v a b ha hb => by
    rcases keyIs_shape ha with ⟨i, t, rfl, rfl⟩ | ⟨x, t, rfl, rfl⟩
    · rcases keyIs_shape hb with ⟨j, u, rfl, e⟩ | ⟨y, u, rfl, e⟩
      · injection e with e1 _; rw [e1]
      · exact nomatch e
    · rcases keyIs_shape hb with ⟨j, u, rfl, e⟩ | ⟨y, u, rfl, e⟩
      · exact nomatch e
      · injection e with e1 _; rw [e1]
  byValue := fun k v h => by
    rcases keyIs_shape h with ⟨i, t, rfl, rfl⟩ | ⟨x, t, rfl, rfl⟩ <;> rfl
  pyHash := fun hv h => by
    rcases keyIs_shape hv with ⟨i, t, rfl, rfl⟩ | ⟨x, t, rfl, rfl⟩
    · exact wpAny_pyHash_int h
    · exact wpAny_pyHash_str h
  eqBool := fun hu hv h => by
    rcases keyIs_shape hu with ⟨i, t, rfl, rfl⟩ | ⟨x, t, rfl, rfl⟩
    · rcases keyIs_shape hv with ⟨j, u, rfl, rfl⟩ | ⟨y, u, rfl, rfl⟩
      · rw [key_ll] at h; exact wpAny_eqBool_int h
      · rw [key_lr] at h; exact SeqAt.EqAt.int_str i t y u _ _ _ _ h
    · rcases keyIs_shape hv with ⟨j, u, rfl, rfl⟩ | ⟨y, u, rfl, rfl⟩
      · rw [key_rl] at h; exact SeqAt.EqAt.str_int x t j u _ _ _ _ h
      · rw [key_rr] at h; exact wpAny_eqBool_str h
  «strs» := fun k x t v h => by
    rcases keyIs_shape h with ⟨i, u, rfl, e⟩ | ⟨y, u, rfl, e⟩
    · exact nomatch e
    · injection e with e1 _
      subst e1
      cases v <;> rfl

theorem mixKind_is (prog : Program) (w : World) (k : Key) (v : Value) : (mixKind prog w).is k v = keyIs k v := rfl
theorem mixKind_int (prog : Program) (w : World) (i : Int) (t : Tok) : (mixKind prog w).is (.inl i) (.int i t) = true := keyIs_int i t
theorem mixKind_str (prog : Program) (w : World) (x : Str) (t : Tok) : (mixKind prog w).is (.inr x) (.str x t) = true := keyIs_str x t
end L2

namespace L2
open PySem PySem.Spec PyProof.Rows

/-- a value, without the heap -/
inductive V where
  | non | bl (b : Bool) | int (i : Int) | str (x : Str) | byt (b : Array UInt8) | flt (b : UInt64) | ref (a : Addr) | ty (n : String)
  deriving DecidableEq

def RelV : V → Value → Prop
  | .non, u => u = Value.none
  | .bl b, u => u = Value.bool b
  | .int i, u => ∃ t, u = Value.int i t
  | .str x, u => ∃ t, u = Value.str x t
  | .byt b, u => ∃ t, u = Value.bytes b t
  | .flt b, u => ∃ t, u = Value.float b t
  | .ref a, u => u = Value.ref a
  | .ty n, u => u = Value.type n

abbrev Vals : List V → List Value → Prop := Paired RelV
theorem Vals.length {xs : List V} {us : List Value} (r : Vals xs us) : xs.length = us.length := Paired.length r
theorem Vals.get : ∀ {xs : List V} {us : List Value} {i : Nat} {x : V}, Vals xs us → xs[i]? = some x → ∃ u, us[i]? = some u ∧ RelV x u
  | _, _, _, _, .nil, e => by simp at e
  | _, _, 0, _, .cons r _, e => by simp at e; subst e; exact ⟨_, rfl, r⟩
  | _, _, i + 1, x, .cons _ t, e => by
    obtain ⟨u, h1, h2⟩ := Vals.get (i := i) (x := x) t (by simpa using e)
    exact ⟨u, by simpa using h1, h2⟩
theorem Vals.set {x : V} {u : Value} (r : RelV x u) : ∀ {xs : List V} {us : List Value} (i : Nat), Vals xs us → Vals (xs.set i x) (us.set i u)
  | _, _, _, .nil => .nil
  | _, _, 0, .cons _ t => .cons r t
  | _, _, i + 1, .cons q t => .cons q (Vals.set r i t)
theorem Vals.append : ∀ {xs ys : List V} {us ws : List Value}, Vals xs us → Vals ys ws → Vals (xs ++ ys) (us ++ ws)
  | _, _, _, _, .nil, s => s
  | _, _, _, _, .cons r t, s => .cons r (Vals.append t s)
theorem Vals.take : ∀ {xs : List V} {us : List Value} (n : Nat), Vals xs us → Vals (xs.take n) (us.take n)
  | _, _, 0, _ => .nil
  | _, _, _ + 1, .nil => .nil
  | _, _, n + 1, .cons r t => .cons r (Vals.take n t)
theorem Vals.drop : ∀ {xs : List V} {us : List Value} (n : Nat), Vals xs us → Vals (xs.drop n) (us.drop n)
  | _, _, 0, r => r
  | _, _, _ + 1, .nil => .nil
  | _, _, n + 1, .cons _ t => Vals.drop n t
theorem Vals.none_of : ∀ {xs : List V} {us : List Value} {i : Nat}, Vals xs us → xs[i]? = none → us[i]? = none := fun {xs us i} r e => by
  have h1 := r.length
  have h2 : xs.length ≤ i := List.getElem?_eq_none_iff.mp e
  exact List.getElem?_eq_none_iff.mpr (by omega)

def RelO : Option V → Option Value → Prop
  | some v, some u => RelV v u
  | none, none => True
  | _, _ => False
def KV {κ : Type} : List (κ × V) → List (κ × Value) → Prop := Paired fun (p : κ × V) (q : κ × Value) => p.1 = q.1 ∧ RelV p.2 q.2

/-- a key of a dict (00_mix): an int or a text -/
def kV : Key → V
  | .inl i => .int i
  | .inr x => .str x

/-- what stands at a tracked address -/
inductive HO where
  /-- a list -/
  | lst (xs : List V)
  /-- a tuple (never changes) -/
  | tup (xs : List V)
  /-- a dict whose keys are ints and texts; one whose keys are tuples of ints and texts (the empty one is both) -/
  | dK (kvs : List (Key × V)) | dT (kvs : List (List Key × V))
  /-- a set of ints: its members, its size -/
  | set (S : Int → Bool) (n : Nat)
  /-- an instance of the class at C, its dict at dx, its attributes -/
  | ins (C dx : Addr) (fs : List (Str × V))
  /-- the dict of the instance at x -/
  | own (x : Addr)
  /-- the dict of an exception -/
  | xd (fs : List (Str × V))
  /-- a bound method, f of x -/
  | met (f x : Addr)
  /-- a range object lo, lo + 1, .. below hi -/
  | rng (lo hi : Int)
  /-- a thing that is known to the object (the script; a dict while a loop walks it): read, never written while it is so -/
  | frz (o : Obj) (u : HO)
  /-- a code object's table -/
  | tbl (ps : Array Value)
  /-- any other thing, by what is true of its one object (a def of one's own: SetO a S n := HO.ext fun h => ..) -/
  | ext (φ : Heap → Prop)

abbrev Hp := Addr → Option HO
def upd (H : Hp) (a : Addr) (o : HO) : Hp := fun b => if b = a then some o else H b
theorem upd_same {H : Hp} {a : Addr} {o : HO} : upd H a o a = some o := by unfold upd; rw [if_pos rfl]
theorem upd_ne {H : Hp} {a b : Addr} {o : HO} (h : b ≠ a) : upd H a o b = H b := by unfold upd; rw [if_neg h]
theorem upd_upd {H : Hp} {a : Addr} {o u : HO} : upd (upd H a o) a u = upd H a u := by
  funext b; unfold upd; split <;> rfl
/-- two objects of different content stand apart -/
theorem ne_of {H : Hp} {a b : Addr} {o u : HO} (h : H a = some o) (h' : H b = some u) (d : o ≠ u) : a ≠ b := by
  intro e; subst e; rw [h] at h'; exact d (Option.some.inj h')
theorem ne_of_none {H : Hp} {a b : Addr} {o : HO} (h : H a = some o) (h' : H b = none) : a ≠ b := by
  intro e; subst e; rw [h] at h'; cases h'

section
variable (P : Program) (w : World)
def ObjOk (H : Hp) (h : Heap) (a : Addr) : HO → Prop
  | .lst xs => xs.length ≤ sizeLine ∧ ∃ (its : List Value) (n : Nat), Vals xs its ∧ h.get? a = some { cls := .type "list", data := .seq its.toArray n }
  | .tup xs => xs.length ≤ sizeLine ∧ ∃ its : List Value, Vals xs its ∧ IsTup h a its.toArray
  | .dK kvs => kvs.length ≤ sizeLine ∧ (a == sysModules) = false ∧ ∃ vs, KV kvs vs ∧ h.DictOf (mixKind P w) a vs
  | .dT kvs => kvs.length ≤ sizeLine ∧ (a == sysModules) = false ∧ ∃ xs : List (List Key × Addr × Value),
      Paired (fun (p : List Key × V) (q : List Key × Addr × Value) => p.1 = q.1 ∧ H q.2.1 = some (.tup (p.1.map kV)) ∧ RelV p.2 q.2.2) kvs xs ∧
      ∃ o es ep, h.get? a = some o ∧ o.ExactDict ∧ o.data = .dict es ep ∧ es.toList = xs.map (entryOfKey (tupleKind (mixKind P w))) ∧ (xs.map (·.1)).Nodup
  | .set S n => h.SetOf (intKind P w) a S n
  | .ins C dx fs => H dx = some (.own a) ∧ fs.length ≤ 1000 ∧ dx ≠ a ∧ h.get? a = some (PySem.W.instObj C dx) ∧
      ∃ mA, h.Ns1 dx mA ∧ (∀ f, RelO (fs.lookup f) (mA f)) ∧ PySem.Within mA (fs.map (·.1))
  | .own _ => ∃ o, h.get? a = some o
  | .xd fs => ∃ mA, h.Ns1 a mA ∧ ∀ f, RelO (fs.lookup f) (mA f)
  | .rng lo hi => ∃ t u v, h.get? a = some { cls := .type "range", data := .fields #[.int lo t, .int hi u, .int 1 v] }
  | .frz o u => h.get? a = some o ∧ ObjOk H h a u
  | .tbl ps => h.get? a = some { cls := .none, data := .fields ps }
  | .met f x => h.get? a = some (PySem.W.methodObj (.ref f) (.ref x))
  | .ext φ => φ h ∧ (∃ o, h.get? a = some o) ∧ ∀ h1 h2 : Heap, φ h1 → (∀ o, h1.get? a = some o → h2.get? a = some o) → φ h2
/-- the abstract heap is held -/
def HOk (H : Hp) (h : Heap) : Prop := ∀ a o, H a = some o → ObjOk P w H h a o
end

section
variable {P : Program} {w : World} {H H' : Hp} {h h' : Heap} {a : Addr} {o : HO}
theorem ObjOk.lt (x : ObjOk P w H h a o) : a < h.objs.size := by
  cases o with
  | lst xs => obtain ⟨_, _, _, _, e⟩ := x; exact Heap.lt_size e
  | tup xs => obtain ⟨_, _, _, p⟩ := x; exact p.lt
  | dK kvs => obtain ⟨_, _, _, _, o, _, _, e, _⟩ := x; exact Heap.lt_size e
  | dT kvs => obtain ⟨_, _, _, _, o, _, _, e, _⟩ := x; exact Heap.lt_size e
  | set S n => obtain ⟨o, _, _, _, e, _⟩ := x; exact Heap.lt_size e
  | ins C dx fs => obtain ⟨_, _, _, e, _⟩ := x; exact Heap.lt_size e
  | own y => obtain ⟨_, e⟩ := x; exact Heap.lt_size e
  | xd fs => obtain ⟨_, ⟨_, _, _, e, _⟩, _⟩ := x; exact Heap.lt_size e
  | rng lo hi => obtain ⟨_, _, _, e⟩ := x; exact Heap.lt_size e
  | frz ob u => obtain ⟨e, _⟩ := x; exact Heap.lt_size e
  | tbl ps => exact Heap.lt_size (show h.get? a = some _ from x)
  | met f y => exact Heap.lt_size (show h.get? a = some _ from x)
  | ext φ => obtain ⟨_, ⟨_, e⟩, _⟩ := x; exact Heap.lt_size e
theorem Paired.mapP {α β : Type} {F G : α → β → Prop} : ∀ {l₁ : List α} {l₂ : List β}, Paired F l₁ l₂ → (∀ a b, F a b → G a b) → Paired G l₁ l₂
  | _, _, .nil, _ => .nil
  | _, _, .cons r t, f => .cons (f _ _ r) (Paired.mapP t f)
theorem Paired.imp' {α β : Type} {F G : α → β → Prop} (f : ∀ a b, F a b → G a b) {l₁ : List α} {l₂ : List β} (r : Paired F l₁ l₂) : Paired G l₁ l₂ := Paired.mapP r f
/-- what an object's description leans on: its own object, its own dict, the tuples -/
theorem ObjOk.stay (x : ObjOk P w H h a o) (k : ∀ b u, (b = a ∨ H b = some (.own a)) → h.get? b = some u → h'.get? b = some u)
    (ho : ∀ b, H b = some (.own a) → H' b = some (.own a)) (ht : ∀ b xs, H b = some (.tup xs) → H' b = some (.tup xs)) : ObjOk P w H' h' a o := by
  induction o with
  | lst xs => obtain ⟨z, its, n, r, e⟩ := x; exact ⟨z, its, n, r, k _ _ (.inl rfl) e⟩
  | tup xs => obtain ⟨z, its, r, ob, e, c⟩ := x; exact ⟨z, its, r, ob, k _ _ (.inl rfl) e, c⟩
  | dK kvs => obtain ⟨z, y, vs, r, ob, es, ep, e, c⟩ := x; exact ⟨z, y, vs, r, ob, es, ep, k _ _ (.inl rfl) e, c⟩
  | dT kvs =>
    obtain ⟨z, y, xs, r, ob, es, ep, e, c⟩ := x
    exact ⟨z, y, xs, Paired.mapP r fun p q z => ⟨z.1, ht _ _ z.2.1, z.2.2⟩, ob, es, ep, k _ _ (.inl rfl) e, c⟩
  | set S n => obtain ⟨ob, es, ep, t, e, c⟩ := x; exact ⟨ob, es, ep, t, k _ _ (.inl rfl) e, c⟩
  | ins C dx fs =>
    obtain ⟨d, z, ne, e, mA, ⟨od, es, ep, e2, c⟩, r⟩ := x
    exact ⟨ho _ d, z, ne, k _ _ (.inl rfl) e, mA, ⟨od, es, ep, k _ _ (.inr d) e2, c⟩, r⟩
  | own y => obtain ⟨ob, e⟩ := x; exact ⟨ob, k _ _ (.inl rfl) e⟩
  | xd fs => obtain ⟨mA, ⟨od, es, ep, e, c⟩, r⟩ := x; exact ⟨mA, ⟨od, es, ep, k _ _ (.inl rfl) e, c⟩, r⟩
  | rng lo hi => obtain ⟨t, u, v, e⟩ := x; exact ⟨t, u, v, k _ _ (.inl rfl) e⟩
  | frz ob u ih => obtain ⟨e, q⟩ := x; exact ⟨k _ _ (.inl rfl) e, ih q⟩
  | tbl ps =>
    have e : h.get? a = some { cls := .none, data := .fields ps } := x
    show h'.get? a = some { cls := .none, data := .fields ps }
    exact k a _ (.inl rfl) e
  | met f y =>
    have e : h.get? a = some (PySem.W.methodObj (.ref f) (.ref y)) := x
    show h'.get? a = some (PySem.W.methodObj (.ref f) (.ref y))
    exact k a _ (.inl rfl) e
  | ext φ => obtain ⟨p, ⟨o, e⟩, st⟩ := x; exact ⟨st _ _ p fun o q => k _ _ (.inl rfl) q, ⟨o, k _ _ (.inl rfl) e⟩, st⟩
theorem HOk.lt (x : HOk P w H h) (e : H a = some o) : a < h.objs.size := (x a o e).lt
theorem HOk.fresh (x : HOk P w H h) (e : h.objs.size ≤ a) : H a = none := by
  cases q : H a with
  | none => rfl
  | some u => exact absurd (Nat.lt_of_lt_of_le (x.lt q) e) (Nat.lt_irrefl _)
/-- every object of the heap is kept -/
theorem HOk.kept (x : HOk P w H h) (k : ∀ b u, h.get? b = some u → h'.get? b = some u) : HOk P w H h' := fun a o e =>
  (x a o e).stay (fun b u _ q => k b u q) (fun _ q => q) fun _ _ q => q
/-- a new object is laid and tracked -/
theorem HOk.laid (x : HOk P w H h) (k : ∀ b u, h.get? b = some u → h'.get? b = some u) (hp : h.objs.size ≤ a) (new : ObjOk P w (upd H a o) h' a o) : HOk P w (upd H a o) h' := fun b u e => by
  have hn := x.fresh hp
  by_cases hb : b = a
  · subst hb; rw [upd_same] at e; cases e; exact new
  · rw [upd_ne hb] at e
    exact (x b u e).stay (fun c v _ q => k c v q) (fun c q => by rw [upd_ne (ne_of_none q hn)]; exact q) fun c xs q => by rw [upd_ne (ne_of_none q hn)]; exact q
end

/-- what may be read as u: it is u, or a known u -/
def Rd (H : Hp) (a : Addr) (u : HO) : Prop := H a = some u ∨ ∃ o, H a = some (.frz o u)
theorem Rd.of {H : Hp} {a : Addr} {u : HO} (h : H a = some u) : Rd H a u := .inl h
theorem Rd.ok {P : Program} {w : World} {H : Hp} {h : Heap} {a : Addr} {u : HO} (r : Rd H a u) (x : HOk P w H h) : ObjOk P w H h a u := by
  rcases r with r | ⟨o, r⟩
  · exact x a u r
  · obtain ⟨_, q⟩ := x a _ r
    exact q
/-- what may be written -/
def Mut : Option HO → Prop
  | some (.lst _) => True
  | some (.dK _) => True
  | some (.dT _) => True
  | some (.set _ _) => True
  | some (.ins _ _ _) => True
  | some (.ext _) => True
  | _ => False
section
variable {P : Program} {w : World} {H : Hp} {h h' : Heap} {x e : Addr} {o' : HO}
/-- the object at e is changed: x itself, or the dict of the instance x -/
theorem HOk.write (ok : HOk P w H h) (mu : Mut (H x)) (he : e = x ∨ H e = some (.own x)) (k : ∀ b u, b ≠ e → h.get? b = some u → h'.get? b = some u) (heo : ∃ u, h'.get? e = some u)
    (new : ObjOk P w (upd H x o') h' x o') : HOk P w (upd H x o') h' := fun b u q => by
  have nown : ∀ c y, H c = some (.own y) → c ≠ x := fun c y r z => by subst z; rw [r] at mu; exact mu
  have ntup : ∀ c xs, H c = some (.tup xs) → c ≠ x := fun c xs r z => by subst z; rw [r] at mu; exact mu
  by_cases hb : b = x
  · subst hb; rw [upd_same] at q; cases q; exact new
  · rw [upd_ne hb] at q
    by_cases hbe : b = e
    · have q' : H b = some (.own x) := by
        rcases he with z | z
        · exact absurd (hbe.trans z) hb
        · rw [hbe]; exact z
      rw [q] at q'; cases q'
      obtain ⟨v, hv⟩ := heo
      exact ⟨v, by rw [hbe]; exact hv⟩
    · refine (ok b u q).stay (fun c v hc r => k c v ?_ r) (fun c r => by rw [upd_ne (nown c b r)]; exact r) fun c xs r => by rw [upd_ne (ntup c xs r)]; exact r
      rcases hc with rfl | hc
      · exact hbe
      · rintro rfl
        rcases he with z | z
        · exact nown c b hc z
        · rw [hc] at z; cases z; exact hb rfl
end

/-! ### kept unless tracked; of the frames at fs (the callers') the slots may change (an exception that passes writes there); of the records at ex (iterators) nothing is said -/
structure Un (fs ex : List Addr) (H H' : Hp) (h h' : Heap) : Prop where
  keep : ∀ b o, h.get? b = some o → H b = none → b ∉ fs → b ∉ ex → h'.get? b = some o
  slot : ∀ b o, h.get? b = some o → H b = none → b ∈ fs → b ∉ ex → ∃ sl, h'.get? b = some { o with slots := sl }
  free : ∀ b o, h.get? b = some o → H b = none → b ∉ ex → H' b = none
  there : ∀ b o, h.get? b = some o → b ∉ ex → ∃ o', h'.get? b = some o'
  tups : ∀ b xs, H b = some (.tup xs) → H' b = some (.tup xs)
  frzs : ∀ b o u, H b = some (.frz o u) → H' b = some (.frz o u)
  tbls : ∀ b ps, H b = some (.tbl ps) → ∃ more, H' b = some (.tbl (ps ++ more))
section
variable {fs fs' ex ex' : List Addr} {H H1 H2 : Hp} {h h1 h2 h' : Heap} {a x e : Addr} {o : HO}
theorem Un.any (u : Un fs ex H H1 h h1) {b : Addr} {ob : Obj} (q : h.get? b = some ob) (n : H b = none) (hx : b ∉ ex) : ∃ sl, h1.get? b = some { ob with slots := sl } := by
  by_cases hb : b ∈ fs
  · exact u.slot b ob q n hb hx
  · exact ⟨ob.slots, u.keep b ob q n hb hx⟩
theorem Un.trans (a : Un fs ex H H1 h h1) (b : Un fs ex H1 H2 h1 h2) : Un fs ex H H2 h h2 where
  keep := fun c ob q n hc hx => b.keep c ob (a.keep c ob q n hc hx) (a.free c ob q n hx) hc hx
  slot := fun c ob q n hc hx => by
    obtain ⟨sl, e1⟩ := a.slot c ob q n hc hx
    obtain ⟨sl', e2⟩ := b.slot c _ e1 (a.free c ob q n hx) hc hx
    exact ⟨sl', e2⟩
  free := fun c ob q n hx => by
    obtain ⟨o', e1⟩ := a.there c ob q hx
    exact b.free c o' e1 (a.free c ob q n hx) hx
  there := fun c ob q hx => by
    obtain ⟨o', e1⟩ := a.there c ob q hx
    exact b.there c o' e1 hx
  tups := fun c xs q => b.tups c xs (a.tups c xs q)
  frzs := fun c ob xs q => b.frzs c ob xs (a.frzs c ob xs q)
  tbls := fun c ps q => by
    obtain ⟨m1, e1⟩ := a.tbls c ps q
    obtain ⟨m2, e2⟩ := b.tbls c _ e1
    exact ⟨m1 ++ m2, by rw [e2, Array.append_assoc]⟩
theorem Un.kept (k : ∀ b u, h.get? b = some u → h'.get? b = some u) : Un fs ex H H h h' :=
  ⟨fun b ob q _ _ _ => k b ob q, fun b ob q _ _ _ => ⟨ob.slots, k b ob q⟩, fun _ _ _ n _ => n, fun b ob q _ => ⟨ob, k b ob q⟩, fun _ _ q => q, fun _ _ _ q => q, fun _ ps q => ⟨#[], by rw [q]; simp⟩⟩
theorem Un.refl : Un fs ex H H h h := Un.kept fun _ _ q => q
theorem Un.laid (k : ∀ b u, h.get? b = some u → h'.get? b = some u) (hp : h.objs.size ≤ a) (hn : H a = none) : Un fs ex H (upd H a o) h h' where
  keep := fun b u q _ _ _ => k b u q
  slot := fun b u q _ _ _ => ⟨u.slots, k b u q⟩
  free := fun b u q n _ => by rw [upd_ne (Nat.ne_of_lt (Nat.lt_of_lt_of_le (Heap.lt_size q) hp))]; exact n
  there := fun b u q _ => ⟨u, k b u q⟩
  tups := fun b xs q => by rw [upd_ne (ne_of_none q hn)]; exact q
  frzs := fun b u xs q => by rw [upd_ne (ne_of_none q hn)]; exact q
  tbls := fun b ps q => ⟨#[], by rw [upd_ne (ne_of_none q hn), q]; simp⟩
theorem Un.write (mu : Mut (H x)) (he : e = x ∨ H e = some (.own x)) (k : ∀ b u, b ≠ e → h.get? b = some u → h'.get? b = some u) (heo : ∃ u, h'.get? e = some u) : Un fs ex H (upd H x o) h h' := by
  have hx : ∀ b, H b = none → b ≠ x := fun b n z => by subst z; rw [n] at mu; exact mu
  have hb : ∀ b, H b = none → b ≠ e := fun b n z => by
    subst z
    rcases he with r | r
    · exact hx b n r
    · rw [n] at r; cases r
  have hm : ∀ b u, H b = some u → ¬ Mut (some u) → b ≠ x := fun b u q nm z => by subst z; rw [q] at mu; exact nm mu
  refine ⟨fun b u q n _ _ => k b u (hb b n) q, fun b u q n _ _ => ⟨u.slots, k b u (hb b n) q⟩, fun b u q n _ => by rw [upd_ne (hx b n)]; exact n, fun b u q _ => ?_,
    fun b xs q => by rw [upd_ne (hm b _ q fun z => z)]; exact q, fun b u xs q => by rw [upd_ne (hm b _ q fun z => z)]; exact q, fun b ps q => ⟨#[], by rw [upd_ne (hm b _ q fun z => z), q]; simp⟩⟩
  by_cases hbe : b = e
  · subst hbe; exact heo
  · exact ⟨u, k b u hbe q⟩
theorem Un.mono (u : Un fs ex H H1 h h1) (hs : ∀ b ∈ fs, b ∈ fs') (hx : ∀ b ∈ ex, b ∈ ex') : Un fs' ex' H H1 h h1 :=
  ⟨fun b ob q n hb he => u.keep b ob q n (fun z => hb (hs b z)) fun z => he (hx b z), fun _ _ q n _ he => u.any q n fun z => he (hx _ z), fun b ob q n he => u.free b ob q n fun z => he (hx b z), fun b ob q he => u.there b ob q fun z => he (hx b z), u.tups, u.frzs, u.tbls⟩
end

/-! ### the heap without what is tracked -/
def trk (h : Heap) (H : Hp) : List Addr := (List.range h.objs.size).filter fun a => (H a).isSome
def hidT (h : Heap) (H : Hp) : Heap := PySem.W.hideAll h (trk h H)
theorem hidT_size (h : Heap) (H : Hp) : (hidT h H).objs.size = h.objs.size := PySem.W.hideAll_size _ _
theorem hidT_get {h : Heap} {H : Hp} {b : Addr} {o : Obj} (e : h.get? b = some o) (n : H b = none) : (hidT h H).get? b = some o :=
  PySem.W.hideAll_get _ e fun hm => by
    have q : (H b).isSome = true := (List.mem_filter.mp hm).2
    rw [n] at q; simp at q
theorem of_hidT {h : Heap} {H : Hp} {b : Addr} {o : Obj} (e : (hidT h H).get? b = some o) : h.get? b = some o ∧ H b = none := by
  have e' : h.get? b = some o := PySem.W.of_hideAll (trk h H) e
  refine ⟨e', ?_⟩
  cases q : H b with
  | none => rfl
  | some x =>
    have hm : b ∈ trk h H := List.mem_filter.mpr ⟨List.mem_range.mpr (Heap.lt_size e'), by simp [q]⟩
    have z : (hidT h H).get? b = none := PySem.W.hideAll_none (trk h H) hm
    rw [z] at e; cases e

/-! ### OpenK's ledger, filled with every new object but one -/
def allNews (g h : Heap) (L : Addr) : List (Addr × Obj) := (List.range h.objs.size).filterMap fun a => if a = L ∨ (g.get? a).isSome = true then none else (h.get? a).map fun o => (a, o)
theorem mem_allNews {g h : Heap} {L a : Addr} {o : Obj} (h1 : a ≠ L) (h2 : g.get? a = none) (h3 : h.get? a = some o) : (a, o) ∈ allNews g h L :=
  List.mem_filterMap.mpr ⟨a, List.mem_range.mpr (Heap.lt_size h3), by simp [h1, h2, h3]⟩
theorem of_mem_allNews {g h : Heap} {L : Addr} {p : Addr × Obj} (hp : p ∈ allNews g h L) : p.1 ≠ L ∧ g.get? p.1 = none ∧ h.get? p.1 = some p.2 := by
  obtain ⟨b, _, e⟩ := List.mem_filterMap.mp hp
  split at e
  · cases e
  · rename_i hn
    cases q : h.get? b with
    | none => rw [q] at e; simp at e
    | some u =>
      rw [q] at e
      simp only [Option.map_some, Option.some.injEq] at e
      subst e
      refine ⟨fun z => hn (.inl z), ?_, q⟩
      show g.get? b = none
      cases r : g.get? b with
      | none => rfl
      | some v => exact (hn (.inr (by simp [r]))).elim
def rest (g h : Heap) (L d : Addr) : List (Addr × Obj) := (allNews g h L).filter fun p => decide (p.1 ≠ d)
theorem rest_ne {g h : Heap} {L d : Addr} : ∀ p ∈ rest g h L d, p.1 ≠ d := fun p hp => of_decide_eq_true (List.mem_filter.mp hp).2
theorem mem_rest {g h : Heap} {L d a : Addr} {o : Obj} (h1 : a ≠ L) (h2 : g.get? a = none) (h3 : h.get? a = some o) (h4 : a ≠ d) : (a, o) ∈ rest g h L d :=
  List.mem_filter.mpr ⟨mem_allNews h1 h2 h3, decide_eq_true h4⟩
theorem news_all {g h : Heap} {L : Addr} : News g L h (allNews g h L) := fun p hp => let ⟨a, b, c⟩ := of_mem_allNews hp; ⟨c, a, b⟩
theorem news_at {g h : Heap} {L d : Addr} {o : Obj} (h1 : d ≠ L) (h2 : g.get? d = none) (h3 : h.get? d = some o) : News g L h ((d, o) :: rest g h L d) := fun p hp => by
  rcases List.mem_cons.mp hp with rfl | hp
  · exact ⟨h3, h1, h2⟩
  · exact news_all p (List.mem_filter.mp hp).1
/-- behind a rule that changed d alone: all else but the frame is kept -/
theorem kept_of_news {g h h' : Heap} {L d : Addr} {m : Str → Option Value} (k : ∀ b o, g.get? b = some o → h.get? b = some o) (F : Fr g L h' m) (N : News g L h' (rest g h L d)) :
    ∀ b o, b ≠ L → b ≠ d → h.get? b = some o → h'.get? b = some o := fun b o h1 h2 e => by
  cases q : g.get? b with
  | some u =>
    have := k b u q
    rw [e] at this; cases this
    exact F.keep b _ q
  | none => exact (N (b, o) (mem_rest h1 q e h2)).1
end L2

namespace L2
open PySem PySem.Spec PyProof.Rows

/-- the module's facts, over the base: the heap at the law's entry without what is tracked there -/
structure Mod (K : PySem.W.Frag) (mg : Str → Option Value) (base : Heap) : Prop where
  kin : K.In base
  glob : base.Ns mainGlobals mg
  blt : ∃ mb, base.Ns builtinsNs mb ∧ ∀ x : Str, x ≠ "__name__" → mb x = bootBuiltins x
  nolimit : base.NoLimit

/-- the context: a def's body (or a comprehension's block) running. base: fixed through the whole law; s₀, H₀: the entry; outer: the frames whose slots others may change (a def's callers); stack: all frames that run;
   ex: iterators that were made ahead of the entry and are walked here (a comprehension's); fn: the names whose cells were made at the entry (a def: all; a comprehension's block: its own); calm: not within an except suite; pn: pins that every state bears; xe: what is wanted of an exception that leaves the code -/
structure Cx where
  prog : Program
  w : World
  K : PySem.W.Frag
  mg : Str → Option Value
  base : Heap
  A : Around
  N : List Str
  s₀ : Shared
  H₀ : Hp
  env : Env
  outer : List Env
  stack : List Env
  ex : List Addr
  fn : Str → Bool
  calm : Bool
  pn : List (Addr × Obj)
  xe : Value → Shared → Prop
/-- the callers' frames -/
def frs (l : List Env) : List Addr := l.filterMap (·.frame)
abbrev Cx.fs (X : Cx) : List Addr := frs X.outer

def Vis (sc : Scope) (x : Str) : Prop := sc.names.lookup x = some .local ∨ sc.names.lookup x = some .cell ∨ sc.names.lookup x = some .free
def Loc (sc : Scope) (x : Str) : Prop := sc.names.lookup x = some .local ∨ sc.names.lookup x = some .cell
def Look (env : Env) (h : Heap) (m : Str → Option Value) (x : Str) (u : Value) : Prop :=
  (env.kindOf x = some .local ∧ m x = some u) ∨ ((env.kindOf x = some .cell ∨ env.kindOf x = some .free) ∧ ∃ c, env.cells.lookup x = some c ∧ h.IsCell c (some u))

structure Cx.Ok (X : Cx) : Prop where
  mod : Mod X.K X.mg X.base
  kind : X.env.scope.kind = .function
  glob : X.env.globals = mainGlobals
  blt : X.env.builtins = builtinsNs
  above : X.s₀.heap.objs.size ≤ X.env.locals
  inj : ∀ x y c, X.env.cells.lookup x = some c → X.env.cells.lookup y = some c → x = y
  has : ∀ x, (X.env.kindOf x = some .cell ∨ X.env.kindOf x = some .free) → ∃ c, X.env.cells.lookup x = some c
  cab : ∀ x c, X.fn x = true → X.env.cells.lookup x = some c → X.s₀.heap.objs.size ≤ c
  hd : X.calm = true → X.A.handled = none
  frames : X.A.frames = some X.stack
  stk : X.stack = X.outer ∨ (X.stack = X.env :: X.outer ∧ X.env.frame = some X.env.locals)
  exf : ∀ b ∈ X.ex, b ≠ X.env.locals ∧ ∀ x c, X.env.cells.lookup x = some c → c ≠ b
  bs : ∀ b o, X.base.get? b = some o → X.s₀.heap.get? b = some o ∧ X.H₀ b = none
  bsz : X.base.objs.size ≤ X.s₀.heap.objs.size
  noex : ∀ b o, X.base.get? b = some o → b ∉ X.ex
  exfs : ∀ b ∈ X.ex, b ∉ X.fs
  funs : X.s₀.heap.FunFrames X.base X.outer
  frf : ∀ b ∈ X.fs, X.H₀ b = none

structure Inv (X : Cx) (pins : List (Addr × Obj)) (σ : List (Option V)) (H : Hp) (s : Shared) : Prop where
  ok : X.Ok
  os : s.os = X.s₀.os
  bare : AllBare s.gens
  base : Un X.fs X.ex X.H₀ H X.s₀.heap s.heap
  loc : ∃ m, s.heap.Ns X.env.locals m ∧ ∀ (i : Nat) (x : Str) (v : V), X.N[i]? = some x → σ[i]? = some (some v) → Vis X.env.scope x → ∃ u, RelV v u ∧ Look X.env s.heap m x u
  cell : ∀ x c, X.env.cells.lookup x = some c → ∃ v, s.heap.IsCell c v
  free : H X.env.locals = none
  freeC : ∀ x c, X.env.cells.lookup x = some c → H c = none
  pin : ∀ p ∈ X.pn ++ pins, s.heap.get? p.1 = some p.2 ∧ H p.1 = none ∧ p.1 ≠ X.env.locals ∧ p.1 ∉ X.fs ∧ ∀ v, p.2.data ≠ .cell v
  hok : HOk X.prog X.w H s.heap
  len : σ.length = X.N.length

section
variable {X : Cx} {pins : List (Addr × Obj)} {σ : List (Option V)} {H H' : Hp} {s : Shared} {h' : Heap}

theorem Cx.Ok.nofr (ok : X.Ok) {b : Addr} {o : Obj} (e : X.base.get? b = some o) : b ∉ X.fs := fun hb => by
  have := (ok.funs.mem hb).1
  rw [e] at this; cases this
theorem Inv.bs (I : Inv X pins σ H s) : ∀ b o, X.base.get? b = some o → s.heap.get? b = some o ∧ H b = none := fun b o e =>
  ⟨I.base.keep b o (I.ok.bs b o e).1 (I.ok.bs b o e).2 (I.ok.nofr e) (I.ok.noex b o e), I.base.free b o (I.ok.bs b o e).1 (I.ok.bs b o e).2 (I.ok.noex b o e)⟩
theorem Inv.bk (I : Inv X pins σ H s) : ∀ b o, X.base.get? b = some o → s.heap.get? b = some o := fun b o e => (I.bs b o e).1
theorem Inv.mod (I : Inv X pins σ H s) : Mod X.K X.mg X.base := I.ok.mod
theorem Inv.kIn (I : Inv X pins σ H s) : X.K.In s.heap := I.ok.mod.kin.keeps I.bk
theorem Inv.nolimit (I : Inv X pins σ H s) : s.heap.NoLimit := I.ok.mod.nolimit.keeps I.bk
/-- the frame over the base: for OpenK's rules (K.In X.base is I.mod.kin) -/
theorem Inv.fr (I : Inv X pins σ H s) : ∃ m, Fr X.base X.env.locals s.heap m :=
  let ⟨m, hn, _⟩ := I.loc
  ⟨m, hn, I.bk, Nat.le_trans I.ok.bsz I.ok.above⟩
theorem Inv.lt (I : Inv X pins σ H s) : X.env.locals < s.heap.objs.size := let ⟨_, hn, _⟩ := I.loc; hn.lt
theorem Inv.sz (I : Inv X pins σ H s) : X.s₀.heap.objs.size ≤ s.heap.objs.size := Nat.le_trans I.ok.above (Nat.le_of_lt I.lt)
theorem Inv.nofs (I : Inv X pins σ H s) {a : Addr} (h : s.heap.objs.size ≤ a) : a ∉ X.fs := fun hb => by
  obtain ⟨_, o, ho, _⟩ := I.ok.funs.mem hb
  exact absurd (Nat.lt_of_lt_of_le (Heap.lt_size ho) (Nat.le_trans I.sz h)) (Nat.lt_irrefl _)
theorem Inv.cne (I : Inv X pins σ H s) : ∀ x c, X.env.cells.lookup x = some c → c ≠ X.env.locals := fun x c e z => by
  obtain ⟨v, o, ho, hd⟩ := I.cell x c e
  obtain ⟨m, ⟨o', es, ep, ho', hd', _⟩, _⟩ := I.loc
  rw [z, ho'] at ho; cases ho; rw [hd'] at hd; cases hd
theorem Inv.funs (I : Inv X pins σ H s) : s.heap.FunFrames X.base X.outer := by
  have all : ∀ (l : List Env), (∀ b ∈ frs l, b ∈ X.fs) → X.s₀.heap.FunFrames X.base l → s.heap.FunFrames X.base l := by
    intro l
    induction l with
    | nil => intro _ _; trivial
    | cons env r ih =>
      intro hs hl
      obtain ⟨hk, ⟨L, o, hf, hn, ho, hd⟩, hr⟩ := hl
      have hL : L ∈ X.fs := hs L (by unfold frs; rw [List.filterMap_cons, hf]; exact List.mem_cons_self)
      obtain ⟨sl, e⟩ := I.base.slot L o ho (I.ok.frf L hL) hL fun z => I.ok.exfs L z hL
      exact ⟨hk, ⟨L, _, hf, hn, e, hd⟩, ih (fun b hb => hs b (by unfold frs; rw [List.filterMap_cons, hf]; exact List.mem_cons_of_mem _ hb)) hr⟩
  exact all X.outer (fun _ hb => hb) I.ok.funs

/-- the frames that run, for a call -/
theorem Inv.stack (I : Inv X pins σ H s) : s.heap.FunFrames X.base X.stack := by
  rcases I.ok.stk with e | ⟨e, hf⟩
  · rw [e]; exact I.funs
  · rw [e]
    obtain ⟨m, hn, _⟩ := I.loc
    refine .cons (by rw [I.ok.kind]; decide) hf hn ?_ I.funs
    exact Heap.get?_none_of_le (Nat.le_trans I.ok.bsz I.ok.above)
theorem Inv.stkSub (I : Inv X pins σ H s) : ∀ b ∈ frs X.stack, b ∈ X.env.locals :: X.fs := fun b hb => by
  rcases I.ok.stk with e | ⟨e, hf⟩
  · rw [e] at hb; exact List.mem_cons_of_mem _ hb
  · rw [e] at hb
    unfold frs at hb
    rw [List.filterMap_cons, hf] at hb
    exact hb
theorem Inv.stkFree (I : Inv X pins σ H s) : ∀ b ∈ frs X.stack, H b = none := fun b hb => by
  rcases List.mem_cons.mp (I.stkSub b hb) with e | hb
  · rw [e]; exact I.free
  · obtain ⟨_, o, ho, _⟩ := I.ok.funs.mem hb
    exact I.base.free b o ho (I.ok.frf b hb) fun z => I.ok.exfs b z hb

/-- THE STEP: the untracked objects but the frame and the records at ch are kept (the callers' frames up to slots), the frame's map is kept, the new abstract heap is held -/
theorem Inv.step {g' : Array GenState} {t' : Nat} {d' : Drawn} {ch : List Addr} (I : Inv X pins σ H s)
    (hch : ∀ b ∈ ch, (b ∈ X.ex ∨ X.s₀.heap.objs.size ≤ b) ∧ b ≠ X.env.locals ∧ (∀ x c, X.env.cells.lookup x = some c → c ≠ b) ∧ ∀ p ∈ X.pn ++ pins, p.1 ≠ b)
    (keep : ∀ b o, b ≠ X.env.locals → b ∉ X.fs → b ∉ ch → s.heap.get? b = some o → H b = none → h'.get? b = some o)
    (slot : ∀ b o, b ≠ X.env.locals → b ∈ X.fs → b ∉ ch → s.heap.get? b = some o → H b = none → ∃ sl, h'.get? b = some { o with slots := sl }) (free : ∀ b o, b ∉ ch → s.heap.get? b = some o → H b = none → H' b = none)
    (there : ∀ b o, b ∉ ch → s.heap.get? b = some o → ∃ o', h'.get? b = some o')
    (tups : ∀ b xs, H b = some (.tup xs) → H' b = some (.tup xs)) (frzs : ∀ b o u, H b = some (.frz o u) → H' b = some (.frz o u)) (tbls : ∀ b ps, H b = some (.tbl ps) → ∃ more, H' b = some (.tbl (ps ++ more)))
    (ns : ∀ m, s.heap.Ns X.env.locals m → h'.Ns X.env.locals m) (hok : HOk X.prog X.w H' h') (hg : AllBare g') :
    Inv X pins σ H' { s with heap := h', gens := g', drawn := d', toks := t' } := by
  have neL : ∀ b o, X.s₀.heap.get? b = some o → b ≠ X.env.locals := fun b o e => Nat.ne_of_lt (Nat.lt_of_lt_of_le (Heap.lt_size e) I.ok.above)
  have neC : ∀ b o, X.s₀.heap.get? b = some o → b ∉ X.ex → b ∉ ch := fun b o e hx hb => by
    rcases (hch b hb).1 with z | z
    · exact hx z
    · exact absurd (Nat.lt_of_lt_of_le (Heap.lt_size e) z) (Nat.lt_irrefl _)
  have cellK : ∀ x c, X.env.cells.lookup x = some c → ∀ v, s.heap.IsCell c v → h'.IsCell c v := fun x c e v ⟨o, ho, hd⟩ => by
    have nch : c ∉ ch := fun z => (hch c z).2.2.1 x c e rfl
    by_cases hc : c ∈ X.fs
    · obtain ⟨sl, q⟩ := slot c o (I.cne x c e) hc nch ho (I.freeC x c e)
      exact ⟨_, q, hd⟩
    · exact ⟨o, keep c o (I.cne x c e) hc nch ho (I.freeC x c e), hd⟩
  refine ⟨I.ok, I.os, hg, ⟨fun b o e n hb hx => ?_, fun b o e n hb hx => ?_, fun b o e n hx => ?_, fun b o e hx => ?_, fun b xs e => tups b xs (I.base.tups b xs e), fun b o xs e => frzs b o xs (I.base.frzs b o xs e), fun b ps e => ?_⟩, ?_, fun x c e => ?_, ?_, fun x c e => ?_, fun p hp => ?_, hok, I.len⟩
  · exact keep b o (neL b o e) hb (neC b o e hx) (I.base.keep b o e n hb hx) (I.base.free b o e n hx)
  · obtain ⟨sl, e1⟩ := I.base.slot b o e n hb hx
    obtain ⟨sl', e2⟩ := slot b _ (neL b o e) hb (neC b o e hx) e1 (I.base.free b o e n hx)
    exact ⟨sl', e2⟩
  · obtain ⟨o', e1⟩ := I.base.there b o e hx
    exact free b o' (neC b o e hx) e1 (I.base.free b o e n hx)
  · obtain ⟨o', e1⟩ := I.base.there b o e hx
    exact there b o' (neC b o e hx) e1
  · obtain ⟨m1, e1⟩ := I.base.tbls b ps e
    obtain ⟨m2, e2⟩ := tbls b _ e1
    exact ⟨m1 ++ m2, by rw [e2, Array.append_assoc]⟩
  · obtain ⟨m, hn, hl⟩ := I.loc
    refine ⟨m, ns m hn, fun i x v e1 e2 e3 => ?_⟩
    obtain ⟨u, r, l⟩ := hl i x v e1 e2 e3
    refine ⟨u, r, ?_⟩
    rcases l with l | ⟨k, c, e, z⟩
    · exact .inl l
    · exact .inr ⟨k, c, e, cellK x c e _ z⟩
  · obtain ⟨v, z⟩ := I.cell x c e
    exact ⟨v, cellK x c e v z⟩
  · obtain ⟨m, ⟨o, _, _, ho, _⟩, _⟩ := I.loc
    exact free _ o (fun z => (hch _ z).2.1 rfl) ho I.free
  · obtain ⟨v, o, ho, hd⟩ := I.cell x c e
    exact free c o (fun z => (hch c z).2.2.1 x c e rfl) ho (I.freeC x c e)
  · obtain ⟨e, n, ne, nf, d⟩ := I.pin p hp
    have nch : p.1 ∉ ch := fun z => (hch p.1 z).2.2.2 p hp rfl
    exact ⟨keep p.1 p.2 ne nf nch e n, free p.1 p.2 nch e n, ne, nf, d⟩
/-- .. where the frame's own object is kept too -/
theorem Inv.un {t' : Nat} (I : Inv X pins σ H s) (u : Un X.fs [] H H' s.heap h') (hok : HOk X.prog X.w H' h') : Inv X pins σ H' { s with heap := h', toks := t' } := by
  obtain ⟨m, ⟨o, es, ep, ho, r⟩, _⟩ := id I.loc
  obtain ⟨sl, hL⟩ := u.any ho I.free (by simp)
  exact I.step (g' := s.gens) (d' := s.drawn) (ch := []) (fun _ z => nomatch z) (fun b o _ hb _ e n => u.keep b o e n hb (by simp)) (fun b o _ hb _ e n => u.slot b o e n hb (by simp)) (fun b o _ e n => u.free b o e n (by simp)) (fun b o _ e => u.there b o e (by simp)) u.tups u.frzs u.tbls (fun m' hm => by
    obtain ⟨o', es', ep', ho', r'⟩ := hm
    rw [ho] at ho'; cases ho'
    exact ⟨_, es', ep', hL, r'⟩) hok I.bare
/-- behind a call (or a comprehension's block): the slots of this frame may have changed too, the records at ch may have turned -/
theorem Inv.call {g' : Array GenState} {t' : Nat} {d' : Drawn} {ch : List Addr} (I : Inv X pins σ H s) (u : Un (frs X.stack) ch H H' s.heap h') (hok : HOk X.prog X.w H' h') (hg : AllBare g')
    (hch : ∀ b ∈ ch, (b ∈ X.ex ∨ X.s₀.heap.objs.size ≤ b) ∧ b ≠ X.env.locals ∧ (∀ x c, X.env.cells.lookup x = some c → c ≠ b) ∧ ∀ p ∈ X.pn ++ pins, p.1 ≠ b) :
    Inv X pins σ H' { s with heap := h', gens := g', drawn := d', toks := t' } := by
  obtain ⟨m, ⟨o, es, ep, ho, r⟩, _⟩ := id I.loc
  obtain ⟨sl, hL⟩ := u.any ho I.free fun z => (hch _ z).2.1 rfl
  exact I.step (ch := ch) hch (fun b o hL hb hc e n => u.keep b o e n (fun z => (List.mem_cons.mp (I.stkSub b z)).elim hL hb) hc) (fun b o _ _ hc e n => u.any e n hc) (fun b o hc e n => u.free b o e n hc) (fun b o hc e => u.there b o e hc) u.tups u.frzs u.tbls (fun m' hm => by
    obtain ⟨o', es', ep', ho', r'⟩ := hm
    rw [ho] at ho'; cases ho'
    exact ⟨_, es', ep', hL, r'⟩) hok hg
/-- an untracked record of ours (an iterator) has turned -/
theorem Inv.turned {t' : Nat} {it : Addr} (I : Inv X pins σ H s) (k : ∀ b o, b ≠ it → s.heap.get? b = some o → h'.get? b = some o) (hn : H it = none) (hL : it ≠ X.env.locals)
    (h1 : it ∈ X.ex ∨ X.s₀.heap.objs.size ≤ it) (h2 : ∀ x c, X.env.cells.lookup x = some c → c ≠ it) (h3 : ∀ p ∈ X.pn ++ pins, p.1 ≠ it) : Inv X pins σ H { s with heap := h', toks := t' } := by
  have nit : ∀ b u, H b = some u → b ≠ it := fun b u e z => by rw [z, hn] at e; cases e
  refine I.step (g' := s.gens) (d' := s.drawn) (ch := [it]) (fun b hb => ?_) (fun b o _ _ hc e _ => k b o (fun z => hc (by simp [z])) e) (fun b o _ _ hc e _ => ⟨o.slots, k b o (fun z => hc (by simp [z])) e⟩) (fun _ _ _ _ n => n)
    (fun b o hc e => ⟨o, k b o (fun z => hc (by simp [z])) e⟩) (fun _ _ e => e) (fun _ _ _ e => e) (fun b ps e => ⟨#[], by rw [e]; simp⟩) (fun m hm => ?_) (fun b u e => ?_) I.bare
  · have e : b = it := by simpa using hb
    subst e
    exact ⟨h1, hL, h2, h3⟩
  · obtain ⟨o, es, ep, ho, r⟩ := hm
    exact ⟨o, es, ep, k _ o (Ne.symm hL) ho, r⟩
  · refine (I.hok b u e).stay (fun c v hc q => k c v ?_ q) (fun _ q => q) fun _ _ q => q
    rcases hc with z | z
    · rw [z]; exact nit b u e
    · exact nit c _ z
theorem Inv.tok (I : Inv X pins σ H s) (t : Nat) : Inv X pins σ H { s with toks := t } := I.un (h' := s.heap) (t' := t) Un.refl I.hok
/-- all objects kept -/
theorem Inv.kept {t' : Nat} (I : Inv X pins σ H s) (k : ∀ b u, s.heap.get? b = some u → h'.get? b = some u) : Inv X pins σ H { s with heap := h', toks := t' } := I.un (Un.kept k) (I.hok.kept k)
/-- a new object laid and tracked -/
theorem Inv.laid {a : Addr} {o : HO} {t' : Nat} (I : Inv X pins σ H s) (k : ∀ b u, s.heap.get? b = some u → h'.get? b = some u) (hp : s.heap.objs.size ≤ a) (new : ObjOk X.prog X.w (upd H a o) h' a o) :
    Inv X pins σ (upd H a o) { s with heap := h', toks := t' } := I.un (Un.laid k hp (I.hok.fresh hp)) (I.hok.laid k hp new)
/-- an object written -/
theorem Inv.write {x e : Addr} {o : HO} {t' : Nat} (I : Inv X pins σ H s) (mu : Mut (H x)) (he : e = x ∨ H e = some (.own x)) (k : ∀ b u, b ≠ e → s.heap.get? b = some u → h'.get? b = some u) (heo : ∃ u, h'.get? e = some u)
    (new : ObjOk X.prog X.w (upd H x o) h' x o) : Inv X pins σ (upd H x o) { s with heap := h', toks := t' } := I.un (Un.write mu he k heo) (I.hok.write mu he k heo new)
/-- forgetting slots, pins -/
theorem Inv.weak {σ' : List (Option V)} (I : Inv X pins σ H s) (hl : σ'.length = σ.length) (w : ∀ (i : Nat) v, σ'[i]? = some (some v) → σ[i]? = some (some v)) : Inv X pins σ' H s :=
  ⟨I.ok, I.os, I.bare, I.base, let ⟨m, hn, hl'⟩ := I.loc; ⟨m, hn, fun i x v e1 e2 e3 => hl' i x v e1 (w i v e2) e3⟩, I.cell, I.free, I.freeC, I.pin, I.hok, hl.trans I.len⟩
theorem Inv.pins_of {pins' : List (Addr × Obj)} (I : Inv X pins σ H s) (h : ∀ p ∈ pins', s.heap.get? p.1 = some p.2 ∧ H p.1 = none ∧ p.1 ≠ X.env.locals ∧ p.1 ∉ X.fs ∧ ∀ v, p.2.data ≠ .cell v) : Inv X pins' σ H s :=
  ⟨I.ok, I.os, I.bare, I.base, I.loc, I.cell, I.free, I.freeC, fun p hp => (List.mem_append.mp hp).elim (fun z => I.pin p (List.mem_append_left _ z)) (h p), I.hok, I.len⟩

theorem nodup_ix {N : List Str} (hN : N.Nodup) {i j : Nat} {x : Str} (a : N[i]? = some x) (b : N[j]? = some x) : i = j := by
  obtain ⟨h1, e1⟩ := List.getElem?_eq_some_iff.mp a
  obtain ⟨h2, e2⟩ := List.getElem?_eq_some_iff.mp b
  exact (List.getElem_inj hN).mp (e1.trans e2.symm)

/-- a name is stored; what changed -/
theorem store_ok2 {M : Model} {A : Around} {E : Value → Shared → Prop} {i : Nat} {x : Str} {v : V} {u : Value} {Q : Unit → Shared → Prop} (I : Inv X pins σ H s) (hN : X.N.Nodup) (hi : X.N[i]? = some x) (hx : Loc X.env.scope x) (r : RelV v u)
    (h : ∀ s', Inv X pins (σ.set i (some v)) H s' → (∃ a, Heap.SameBut a s.heap s'.heap ∧ (a = X.env.locals ∨ X.env.cells.lookup x = some a)) → Q () s') (hf : X.fn x = true ∨ X.env.scope.names.lookup x = some .local := by first | exact .inl rfl | exact .inr rfl | assumption) : wpAny M A (storeName X.env x u) Q E s := by
  obtain ⟨m, hn, hl⟩ := id I.loc
  have hcls : (X.env.scope.kind == .class || (X.env.scope.kind == .module && X.env.locals != X.env.globals)) = false := by rw [I.ok.kind]; rfl
  have hiσ : i < σ.length := by rw [I.len]; exact (List.getElem?_eq_some_iff.mp hi).1
  have cne := I.cne
  have tracked : ∀ {a : Addr} {h' : Heap}, (∃ o, s.heap.get? a = some o ∧ H a = none) → Heap.SameBut a s.heap h' → HOk X.prog X.w H h' := fun {a h'} ha hs b ob e => by
    obtain ⟨_, _, hfree⟩ := ha
    refine (I.hok b ob e).stay (fun c w' hc q => (hs.2 c ?_).trans q) (fun _ q => q) fun _ _ q => q
    rintro rfl
    rcases hc with rfl | hc
    · rw [hfree] at e; cases e
    · rw [hfree] at hc; cases hc
  rcases hx with hk | hk
  · refine wpAny_storeName_local hk hn (fun h' hn' hs => ?_) hcls
    obtain ⟨oL, _, _, hoL, _⟩ := id hn
    refine h _ ⟨I.ok, I.os, I.bare, ⟨fun b o e n hb hx => ?_, fun b o e n hb hx => ?_, I.base.free, fun b o e hx => ?_, I.base.tups, I.base.frzs, I.base.tbls⟩, ⟨_, hn', fun j y v' e1 e2 e3 => ?_⟩, fun y c e => ?_, I.free, I.freeC, fun p hp => ?_, tracked ⟨oL, hoL, I.free⟩ hs, by simpa using I.len⟩ ⟨_, hs, .inl rfl⟩
    · exact (hs.2 b (Nat.ne_of_lt (Nat.lt_of_lt_of_le (Heap.lt_size e) I.ok.above))).trans (I.base.keep b o e n hb hx)
    · obtain ⟨sl, e1⟩ := I.base.slot b o e n hb hx
      exact ⟨sl, (hs.2 b (Nat.ne_of_lt (Nat.lt_of_lt_of_le (Heap.lt_size e) I.ok.above))).trans e1⟩
    · obtain ⟨o', e1⟩ := I.base.there b o e hx
      exact ⟨o', (hs.2 b (Nat.ne_of_lt (Nat.lt_of_lt_of_le (Heap.lt_size e) I.ok.above))).trans e1⟩
    · by_cases hj : j = i
      · subst hj
        rw [hi] at e1; cases e1
        rw [List.getElem?_set_self hiσ] at e2
        cases e2
        exact ⟨u, r, .inl ⟨hk, by simp⟩⟩
      · rw [List.getElem?_set_ne (Ne.symm hj)] at e2
        obtain ⟨u', r', q⟩ := hl j y v' e1 e2 e3
        refine ⟨u', r', ?_⟩
        rcases q with ⟨k, e⟩ | ⟨k, c, e, z⟩
        · refine .inl ⟨k, ?_⟩
          have : y ≠ x := fun e => hj (nodup_ix hN e1 (e ▸ hi))
          simp [this, e]
        · exact .inr ⟨k, c, e, z.sameBut hs (cne y c e)⟩
    · obtain ⟨w', z⟩ := I.cell y c e
      exact ⟨w', z.sameBut hs (cne y c e)⟩
    · obtain ⟨e, n, ne, nf, d⟩ := I.pin p hp
      exact ⟨(hs.2 p.1 ne).trans e, n, ne, nf, d⟩
  · have hfn : X.fn x = true := by
      rcases hf with z | z
      · exact z
      · rw [z] at hk; cases hk
    obtain ⟨c, hc⟩ := I.ok.has x (.inl hk)
    obtain ⟨w', z⟩ := I.cell x c hc
    refine wpAny_storeName_cell I.ok.kind hk hc z (fun h' hc' hs => ?_)
    obtain ⟨oc, hoc, hocd⟩ := id z
    refine h { s with heap := h' } ⟨I.ok, I.os, I.bare, ⟨fun b o e n hb hx => ?_, fun b o e n hb hx => ?_, I.base.free, fun b o e hx => ?_, I.base.tups, I.base.frzs, I.base.tbls⟩, ⟨m, hn.sameBut hs (Ne.symm (cne x c hc)), fun j y v' e1 e2 e3 => ?_⟩, fun y c' e => ?_, I.free, I.freeC, fun p hp => ?_, tracked ⟨oc, hoc, I.freeC x c hc⟩ hs, by simpa using I.len⟩ ⟨c, hs, .inr hc⟩
    · exact (hs.2 b (Nat.ne_of_lt (Nat.lt_of_lt_of_le (Heap.lt_size e) (I.ok.cab x c hfn hc)))).trans (I.base.keep b o e n hb hx)
    · obtain ⟨sl, e1⟩ := I.base.slot b o e n hb hx
      exact ⟨sl, (hs.2 b (Nat.ne_of_lt (Nat.lt_of_lt_of_le (Heap.lt_size e) (I.ok.cab x c hfn hc)))).trans e1⟩
    · obtain ⟨o', e1⟩ := I.base.there b o e hx
      exact ⟨o', (hs.2 b (Nat.ne_of_lt (Nat.lt_of_lt_of_le (Heap.lt_size e) (I.ok.cab x c hfn hc)))).trans e1⟩
    · by_cases hj : j = i
      · subst hj
        rw [hi] at e1; cases e1
        rw [List.getElem?_set_self hiσ] at e2
        cases e2
        exact ⟨u, r, .inr ⟨.inl hk, c, hc, hc'⟩⟩
      · rw [List.getElem?_set_ne (Ne.symm hj)] at e2
        obtain ⟨u', r', q⟩ := hl j y v' e1 e2 e3
        refine ⟨u', r', ?_⟩
        rcases q with q | ⟨k, c', e, z'⟩
        · exact .inl q
        · refine .inr ⟨k, c', e, z'.sameBut hs ?_⟩
          rintro rfl
          exact hj (nodup_ix hN e1 (I.ok.inj _ _ _ e hc ▸ hi))
    · by_cases hcc : c' = c
      · subst hcc; exact ⟨_, hc'⟩
      · obtain ⟨w2, z2⟩ := I.cell y c' e
        exact ⟨w2, z2.sameBut hs hcc⟩
    · obtain ⟨e, n, ne, nf, d⟩ := I.pin p hp
      refine ⟨(hs.2 p.1 ?_).trans e, n, ne, nf, d⟩
      intro q
      rw [q, hoc] at e
      have q' : oc = p.2 := Option.some.inj e
      exact d w' (by rw [← q']; exact hocd)
theorem store_ok {M : Model} {A : Around} {E : Value → Shared → Prop} {i : Nat} {x : Str} {v : V} {u : Value} {Q : Unit → Shared → Prop} (I : Inv X pins σ H s) (hN : X.N.Nodup) (hi : X.N[i]? = some x) (hx : Loc X.env.scope x) (r : RelV v u)
    (h : ∀ s', Inv X pins (σ.set i (some v)) H s' → Q () s') (hf : X.fn x = true ∨ X.env.scope.names.lookup x = some .local := by first | exact .inl rfl | exact .inr rfl | assumption) : wpAny M A (storeName X.env x u) Q E s :=
  store_ok2 I hN hi hx r (fun s' I' _ => h s' I') hf
/-- behind a call or a block, the state as it is -/
theorem Inv.call' {s' : Shared} {ch : List Addr} (I : Inv X pins σ H s) (ho : s'.os = s.os) (u : Un (frs X.stack) ch H H' s.heap s'.heap) (hok : HOk X.prog X.w H' s'.heap) (hg : AllBare s'.gens)
    (hch : ∀ b ∈ ch, (b ∈ X.ex ∨ X.s₀.heap.objs.size ≤ b) ∧ b ≠ X.env.locals ∧ (∀ x c, X.env.cells.lookup x = some c → c ≠ b) ∧ ∀ p ∈ X.pn ++ pins, p.1 ≠ b) : Inv X pins σ H' s' := by
  obtain ⟨h', g', d', t', o'⟩ := s'
  have e : o' = s.os := ho
  subst e
  exact I.call (g' := g') (t' := t') (d' := d') u hok hg hch
end

/-! ### the judgements -/
/-- an exception: its class, its own dict's address (where it has one), the abstract heap behind it -/
abbrev XK := Value → Option Addr → Hp → Prop
abbrev St := List (Option V)
abbrev VK := V → Hp → Prop
/-- an expression's reading; a test's; an argument list's -/
abbrev TE := St → Hp → VK → Prop
abbrev TT := St → Hp → (Bool → Hp → Prop) → Prop
abbrev TA := St → Hp → (List V → Hp → Prop) → Prop
/-- what is wanted behind a statement -/
structure Ends where
  nx : St → Hp → Prop
  rt : VK
  bk : St → Hp → Prop := fun _ _ => False
  ct : St → Hp → Prop := fun _ _ => False
abbrev TS := Ends → St → Hp → Prop

def EP (X : Cx) (pins : List (Addr × Obj)) (σ : St) (Q : VK) (u : Value) (s' : Shared) : Prop := ∃ v H', Inv X pins σ H' s' ∧ RelV v u ∧ Q v H'
def TP (X : Cx) (pins : List (Addr × Obj)) (σ : St) (Q : Bool → Hp → Prop) (b : Bool) (s' : Shared) : Prop := ∃ H', Inv X pins σ H' s' ∧ Q b H'
def AP (X : Cx) (pins : List (Addr × Obj)) (σ : St) (Q : List V → Hp → Prop) (us : List Value) (s' : Shared) : Prop := ∃ vs H', Inv X pins σ H' s' ∧ Vals vs us ∧ Q vs H'
def SP (X : Cx) (pins : List (Addr × Obj)) (D : Ends) (f : Flow) (s' : Shared) : Prop :=
  match f with
  | .next => ∃ σ' H', Inv X pins σ' H' s' ∧ D.nx σ' H'
  | .brk => ∃ σ' H', Inv X pins σ' H' s' ∧ D.bk σ' H'
  | .cont => ∃ σ' H', Inv X pins σ' H' s' ∧ D.ct σ' H'
  | .ret u => ∃ v σ' H', Inv X pins σ' H' s' ∧ RelV v u ∧ D.rt v H'

def PE (X : Cx) (e : Expr) (t : TE) : Prop :=
  ∀ (pins : List (Addr × Obj)) (s : Shared) (σ : St) (H : Hp) (Q : VK), Inv X pins σ H s → t σ H Q → wpAny (model X.prog X.w) X.A (eval e X.env) (EP X pins σ Q) X.xe s
def PT (X : Cx) (e : Expr) (t : TT) : Prop :=
  ∀ (pins : List (Addr × Obj)) (s : Shared) (σ : St) (H : Hp) (Q : Bool → Hp → Prop), Inv X pins σ H s → t σ H Q → wpAny (model X.prog X.w) X.A (isTrue e X.env (eval e X.env)) (TP X pins σ Q) X.xe s
/-- a test whatever its 'whole' is (and, or) -/
def PW (X : Cx) (e : Expr) (t : TT) : Prop :=
  ∀ (whole : Sem Value) (pins : List (Addr × Obj)) (s : Shared) (σ : St) (H : Hp) (Q : Bool → Hp → Prop), Inv X pins σ H s → t σ H Q → wpAny (model X.prog X.w) X.A (isTrue e X.env whole) (TP X pins σ Q) X.xe s
theorem PW.pt {X : Cx} {e : Expr} {t : TT} (h : PW X e t) : PT X e t := h _
/-- an argument list (no star), from the left -/
def PA (X : Cx) (es : List Expr) (t : TA) : Prop :=
  ∀ (pos : Pos) (pins : List (Addr × Obj)) (s : Shared) (σ : St) (H : Hp) (Q : List V → Hp → Prop), Inv X pins σ H s → t σ H Q → wpAny (model X.prog X.w) X.A (spliced (backTo pos (starEach es X.env))) (AP X pins σ Q) X.xe s
def PS (X : Cx) (st : Stmt) (t : TS) : Prop :=
  ∀ (pins : List (Addr × Obj)) (s : Shared) (σ : St) (H : Hp) (D : Ends), Inv X pins σ H s → t D σ H → wpAny (model X.prog X.w) X.A (exec st X.env) (SP X pins D) X.xe s
def PSs (X : Cx) (st : List Stmt) (t : TS) : Prop :=
  ∀ (pins : List (Addr × Obj)) (s : Shared) (σ : St) (H : Hp) (D : Ends), Inv X pins σ H s → t D σ H → wpAny (model X.prog X.w) X.A (execs st X.env) (SP X pins D) X.xe s
/-- weaken the end -/
theorem thn {α : Type} {t : Sem α} {Q Q' : α → Shared → Prop} {M : Model} {A : Around} {E : Value → Shared → Prop} {s : Shared} (h : wpAny M A t Q E s) (hQ : ∀ a s, Q a s → Q' a s) : wpAny M A t Q' E s := wpAny_mono h hQ fun _ _ x => x
end L2

namespace L2
open PySem PySem.Spec PyProof.Rows
section
variable {X : Cx}

/-- two expressions in a row -/
theorem bin {a b : Expr} {ta tb : TE} (ha : PE X a ta) (hb : PE X b tb) {pins : List (Addr × Obj)} {s : Shared} {σ : St} {H : Hp} {R : V → V → Hp → Prop} (I : Inv X pins σ H s) (h : ta σ H fun x H1 => tb σ H1 fun y H2 => R x y H2)
    {α : Type} {Q : α → Shared → Prop} {f : Value → Value → Sem α}
    (hf : ∀ v u s2 x y H2, Inv X pins σ H2 s2 → RelV x v → RelV y u → R x y H2 → wpAny (model X.prog X.w) X.A (f v u) Q X.xe s2) :
    wpAny (model X.prog X.w) X.A (eval a X.env) (fun v s₁ => wpAny (model X.prog X.w) X.A (eval b X.env) (fun u s₂ => wpAny (model X.prog X.w) X.A (f v u) Q X.xe s₂) X.xe s₁) X.xe s := by
  refine thn (ha pins s σ H _ I h) fun v s1 ⟨x, H1, I1, r1, q1⟩ => ?_
  refine thn (hb pins s1 σ H1 _ I1 q1) fun u s2 ⟨y, H2, I2, r2, q2⟩ => ?_
  exact hf v u s2 x y H2 I2 r1 r2 q2

/-! ### names and constants -/
def tVar (i : Nat) : TE := fun σ H Q => ∃ v, σ[i]? = some (some v) ∧ Q v H
def tC (v : V) : TE := fun _ H Q => Q v H
theorem pe_var {i : Nat} {x : Str} {pos : Pos} (hN : X.N[i]? = some x) (hv : Vis X.env.scope x) (hd : (x == ("__debug__" : Str)) = false := by decide) (hcd : (x == ("__classdict__" : Str)) = false := by decide) : PE X (.Name x pos) (tVar i) := by
  intro pins s σ H Q I h
  obtain ⟨v, e, h⟩ := h
  obtain ⟨m, hn, hl⟩ := I.loc
  obtain ⟨u, r, l⟩ := hl i x v hN e hv
  have fin : EP X pins σ Q u s := ⟨v, H, I, r, h⟩
  rcases l with ⟨hk, hm⟩ | ⟨hk, c, hc, hcell⟩
  · exact wpAny_Name (wpAny_loadName_local I.ok.kind hk hn hm fin) hd
  · rcases hk with hk | hk
    · exact wpAny_Name (wpAny_loadName_cell I.ok.kind hk hc hcell fin) hd
    · exact wpAny_Name (wpAny_loadName_free I.ok.kind hk hc hcell fin hcd) hd
theorem pe_int {i j pos} : PE X (.Constant (.int i) j pos) (tC (.int i)) := fun _ _ _ H _ I h => wpAny_Constant_int ⟨.int i, H, I.tok _, ⟨_, rfl⟩, h⟩
theorem pe_bl {b j pos} : PE X (.Constant (.bool b) j pos) (tC (.bl b)) := fun _ _ _ H _ I h => Constant_bool ⟨.bl b, H, I, rfl, h⟩
theorem pe_non {j pos} : PE X (.Constant .none j pos) (tC .non) := fun _ _ _ H _ I h => Constant_none ⟨.non, H, I, rfl, h⟩
theorem pe_str {x j pos} : PE X (.Constant (.str x) j pos) (tC (.str x)) := fun _ _ _ H _ I h => Calls.Constant_str ⟨.str x, H, I.tok _, ⟨_, rfl⟩, h⟩

/-- a global name of the def -/
def Gl (X : Cx) (x : Str) : Prop := X.env.kindOf x = some .globalImplicit
theorem ld_glob {E : Value → Shared → Prop} {pins : List (Addr × Obj)} {s : Shared} {σ : St} {H : Hp} {x : Str} {u : Value} {pos : Pos} {Q : Value → Shared → Prop} (I : Inv X pins σ H s) (hg : Gl X x) (hm : X.mg x = some u) (h : Q u s)
    (hd : (x == ("__debug__" : Str)) = false := by decide) : wpAny (model X.prog X.w) X.A (eval (.Name x pos) X.env) Q E s :=
  Calls.Name_function_global I.ok.kind hg (Calls.loadGlobal_global (by rw [I.ok.glob]; exact I.mod.glob.keeps I.bk) hm h) hd
theorem ld_blt {E : Value → Shared → Prop} {pins : List (Addr × Obj)} {s : Shared} {σ : St} {H : Hp} {x : Str} {u : Value} {pos : Pos} {Q : Value → Shared → Prop} (I : Inv X pins σ H s) (hg : Gl X x) (hm : X.mg x = none) (hv : bootBuiltins x = some u) (h : Q u s)
    (hn : x ≠ "__name__" := by decide) (hd : (x == ("__debug__" : Str)) = false := by decide) : wpAny (model X.prog X.w) X.A (eval (.Name x pos) X.env) Q E s := by
  obtain ⟨mb, h1, h2⟩ := I.mod.blt
  exact Calls.Name_function_global I.ok.kind hg (Calls.loadGlobal_builtin (by rw [I.ok.glob]; exact I.mod.glob.keeps I.bk) hm (by rw [I.ok.blt]; exact h1.keeps I.bk) ((h2 x hn).trans hv) h) hd
/-- a module's constant, a class, a function, as a value -/
theorem pe_glob {x : Str} {v : V} {u : Value} {pos : Pos} (hg : Gl X x) (hm : X.mg x = some u) (r : RelV v u) (hd : (x == ("__debug__" : Str)) = false := by decide) : PE X (.Name x pos) (tC v) :=
  fun _ _ _ H _ I h => ld_glob I hg hm ⟨v, H, I, r, h⟩ hd
theorem pe_bltn {x : Str} {v : V} {u : Value} {pos : Pos} (hg : Gl X x) (hm : X.mg x = none) (hv : bootBuiltins x = some u) (r : RelV v u) (hn : x ≠ "__name__" := by decide) (hd : (x == ("__debug__" : Str)) = false := by decide) : PE X (.Name x pos) (tC v) :=
  fun _ _ _ H _ I h => ld_blt I hg hm hv ⟨v, H, I, r, h⟩ hn hd

/-! ### arithmetic -/
/-- two ints -/
def t2I (ta tb : TE) (k : Int → Int → Hp → Prop) : St → Hp → Prop := fun σ H => ta σ H fun x H1 => tb σ H1 fun y H2 => ∃ i j, x = .int i ∧ y = .int j ∧ k i j H2
def tAdd (ta tb : TE) : TE := fun σ H Q => t2I ta tb (fun i j H2 => Q (.int (i + j)) H2) σ H
def tSub (ta tb : TE) : TE := fun σ H Q => t2I ta tb (fun i j H2 => Q (.int (i - j)) H2) σ H
/-- the left factor below 2^64 -/
def tMul (ta tb : TE) : TE := fun σ H Q => t2I ta tb (fun i j H2 => (-(2 ^ 64) < i ∧ i < 2 ^ 64) ∧ Q (.int (i * j)) H2) σ H
variable {a b : Expr} {ta tb : TE} {pos : Pos}
theorem pe_add (ha : PE X a ta) (hb : PE X b tb) : PE X (.BinOp a .Add b pos) (tAdd ta tb) := by
  intro pins s σ H Q I h
  refine wpAny_BinOp (bin ha hb I h fun v u s2 x y H2 I2 rx ry q => ?_)
  obtain ⟨i, j, rfl, rfl, q⟩ := q
  obtain ⟨t, rfl⟩ := rx
  obtain ⟨t', rfl⟩ := ry
  exact add_int ⟨.int _, H2, I2.tok _, ⟨_, rfl⟩, q⟩
theorem pe_sub (ha : PE X a ta) (hb : PE X b tb) : PE X (.BinOp a .Sub b pos) (tSub ta tb) := by
  intro pins s σ H Q I h
  refine wpAny_BinOp (bin ha hb I h fun v u s2 x y H2 I2 rx ry q => ?_)
  obtain ⟨i, j, rfl, rfl, q⟩ := q
  obtain ⟨t, rfl⟩ := rx
  obtain ⟨t', rfl⟩ := ry
  exact sub_int ⟨.int _, H2, I2.tok _, ⟨_, rfl⟩, q⟩
theorem pe_mul (ha : PE X a ta) (hb : PE X b tb) : PE X (.BinOp a .Mult b pos) (tMul ta tb) := by
  intro pins s σ H Q I h
  refine wpAny_BinOp (bin ha hb I h fun v u s2 x y H2 I2 rx ry q => ?_)
  obtain ⟨i, j, rfl, rfl, ⟨q1, q2⟩, q⟩ := q
  obtain ⟨t, rfl⟩ := rx
  obtain ⟨t', rfl⟩ := ry
  exact mul_int ⟨.int _, H2, I2.tok _, ⟨_, rfl⟩, q⟩ (.of_left (intBits_le_64 q1 q2))

/-! ### comparisons -/
def PC (X : Cx) (op : CmpOp) (a b : Expr) (t : TE) : Prop :=
  ∀ (pins : List (Addr × Obj)) (s : Shared) (σ : St) (H : Hp) (Q : VK), Inv X pins σ H s → t σ H Q →
    wpAny (model X.prog X.w) X.A (eval a X.env) (fun v s₁ => wpAny (model X.prog X.w) X.A (eval b X.env) (fun u s₂ => wpAny (model X.prog X.w) X.A (compareOp op v u) (EP X pins σ Q) X.xe s₂) X.xe s₁) X.xe s
theorem nobehind (b : Expr) {op : CmpOp} (h : op ≠ .In) (h2 : op ≠ .NotIn) : behindInMarks op b = false := by
  have e1 : (op == CmpOp.In) = false := by cases op <;> first | rfl | exact absurd rfl h
  have e2 : (op == CmpOp.NotIn) = false := by cases op <;> first | rfl | exact absurd rfl h2
  cases b <;> simp [behindInMarks, e1, e2]
def tCmp (p : Int → Int → Bool) (ta tb : TE) : TE := fun σ H Q => t2I ta tb (fun i j H2 => Q (.bl (p i j)) H2) σ H
abbrev tLt : TE → TE → TE := tCmp fun i j => decide (i < j)
abbrev tLe : TE → TE → TE := tCmp fun i j => decide (i ≤ j)
abbrev tGt : TE → TE → TE := tCmp fun i j => decide (j < i)
abbrev tGe : TE → TE → TE := tCmp fun i j => decide (j ≤ i)
abbrev tEqI : TE → TE → TE := tCmp fun i j => decide (i = j)
abbrev tNeI : TE → TE → TE := tCmp fun i j => !decide (i = j)
/-- a comparison of two ints, by its rule -/
theorem pc_int {op : CmpOp} {p : Int → Int → Bool} (ha : PE X a ta) (hb : PE X b tb)
    (rule : ∀ (i j : Int) (t u : Tok) (Q : Value → Shared → Prop) (s : Shared), Q (.bool (p i j)) s → wpAny (model X.prog X.w) X.A (compareOp op (.int i t) (.int j u)) Q X.xe s) : PC X op a b (tCmp p ta tb) := by
  intro pins s σ H Q I h
  refine bin ha hb I h fun v u s2 x y H2 I2 rx ry q => ?_
  obtain ⟨i, j, rfl, rfl, q⟩ := q
  obtain ⟨t, rfl⟩ := rx
  obtain ⟨t', rfl⟩ := ry
  exact rule i j t t' _ s2 ⟨.bl _, H2, I2, rfl, q⟩
theorem pc_lt (ha : PE X a ta) (hb : PE X b tb) : PC X .Lt a b (tLt ta tb) := pc_int ha hb fun _ _ _ _ _ _ h => lt_int h
theorem pc_le (ha : PE X a ta) (hb : PE X b tb) : PC X .LtE a b (tLe ta tb) := pc_int ha hb fun _ _ _ _ _ _ h => le_int h
theorem pc_gt (ha : PE X a ta) (hb : PE X b tb) : PC X .Gt a b (tGt ta tb) := pc_int ha hb fun _ _ _ _ _ _ h => gt_int h
theorem pc_ge (ha : PE X a ta) (hb : PE X b tb) : PC X .GtE a b (tGe ta tb) := pc_int ha hb fun _ _ _ _ _ _ h => ge_int h
theorem pc_eqI (ha : PE X a ta) (hb : PE X b tb) : PC X .Eq a b (tEqI ta tb) := pc_int ha hb fun _ _ _ _ _ _ h => eq_int (by rw [Bool.beq_eq_decide_eq]; exact h)
theorem pc_neI (ha : PE X a ta) (hb : PE X b tb) : PC X .NotEq a b (tNeI ta tb) := pc_int ha hb fun _ _ _ _ _ _ h => ne_int (by rw [bne, Bool.beq_eq_decide_eq]; exact h)
/-- is None -/
def tIsN (ta : TE) : TE := fun σ H Q => ta σ H fun x H1 => Q (.bl (decide (x = .non))) H1
def tNotN (ta : TE) : TE := fun σ H Q => ta σ H fun x H1 => Q (.bl (!decide (x = .non))) H1
theorem RelV.none_iff {x : V} {v : Value} (r : RelV x v) : (v == Value.none) = decide (x = .non) := by
  cases x with
  | non => cases r; rfl
  | bl _ => cases r; rfl
  | int _ => obtain ⟨t, rfl⟩ := r; rfl
  | str _ => obtain ⟨t, rfl⟩ := r; rfl
  | byt _ => obtain ⟨t, rfl⟩ := r; rfl
  | flt _ => obtain ⟨t, rfl⟩ := r; rfl
  | ref _ => cases r; rfl
  | ty _ => cases r; rfl
theorem pc_isN {j pos'} (ha : PE X a ta) : PC X .Is a (.Constant .none j pos') (tIsN ta) := by
  intro pins s σ H Q I h
  refine thn (ha pins s σ H _ I h) fun v s1 ⟨x, H1, I1, r1, q1⟩ => ?_
  exact Constant_none (is_none_gen ⟨.bl _, H1, I1, by rw [r1.none_iff]; rfl, q1⟩)
theorem pc_notN {j pos'} (ha : PE X a ta) : PC X .IsNot a (.Constant .none j pos') (tNotN ta) := by
  intro pins s σ H Q I h
  refine thn (ha pins s σ H _ I h) fun v s1 ⟨x, H1, I1, r1, q1⟩ => ?_
  exact Constant_none (isnot_none_gen ⟨.bl _, H1, I1, by rw [r1.none_iff]; rfl, q1⟩)
/-- a comparison as a value, as a test -/
def tB (t : TE) : TT := fun σ H Q => t σ H fun x H1 => ∃ c, x = .bl c ∧ Q c H1
theorem pe_cmp {op : CmpOp} {t : TE} (h : PC X op a b t) (h1 : behindInMarks op b = false := by first | exact nobehind _ (by decide) (by decide) | rfl) : PE X (.Compare a [op] [b] pos) t := fun pins s σ H Q I hw => wpAny_Compare1 (h pins s σ H Q I hw) h1
theorem pt_cmp {op : CmpOp} {t : TE} (h : PC X op a b t) (h1 : behindInMarks op b = false := by first | exact nobehind _ (by decide) (by decide) | rfl) : PT X (.Compare a [op] [b] pos) (tB t) := by
  intro pins s σ H Q I hw
  refine wpAny_isTrue_Compare1 (thn (h pins s σ H _ I hw) fun v s1 h1 => thn h1 fun u s2 h2 => thn h2 fun c s3 ⟨x, H1, I1, r1, q1⟩ => ?_) h1
  obtain ⟨d, rfl, q⟩ := q1
  cases r1
  exact wpAny_truthy_bool ⟨H1, I1, q⟩
/-- an expression whose value is a bool, as a test -/
theorem pt_val {e : Expr} {t : TE} (h : PE X e t) (he : ∀ whole, isTrue e X.env whole = (do let v ← whole; standAt e.pos; holding [v] (truthy v)) := by intro _; rfl) : PT X e (tB t) := by
  intro pins s σ H Q I hw
  refine isTrue_plain (thn (h pins s σ H _ I hw) fun v s1 ⟨x, H1, I1, r1, q1⟩ => ?_) (he _)
  obtain ⟨d, rfl, q⟩ := q1
  cases r1
  exact wpAny_truthy_bool ⟨H1, I1, q⟩

/-! ### and, or, not -/
variable {tA tB' : TT} {rest : List Expr}
def tAnd (t u : TT) : TT := fun σ H Q => t σ H fun c H1 => if c = true then u σ H1 Q else Q false H1
def tOr (t u : TT) : TT := fun σ H Q => t σ H fun c H1 => if c = true then Q true H1 else u σ H1 Q
def tNot (t : TT) : TT := fun σ H Q => t σ H fun c H1 => Q (!c) H1
theorem pw_and1 (ha : PT X a tA) : PW X (.BoolOp .And [a] pos) tA := by
  intro wh pins s σ H Q I h
  refine isTrue_and (thn (ha pins s σ H Q I h) fun c s1 e => ?_)
  cases c with
  | true => exact isTrue_and_nil e
  | false => exact e
theorem pw_or1 (ha : PT X a tA) : PW X (.BoolOp .Or [a] pos) tA := by
  intro wh pins s σ H Q I h
  refine isTrue_or (thn (ha pins s σ H Q I h) fun c s1 e => ?_)
  cases c with
  | false => exact isTrue_or_nil e
  | true => exact e
theorem pw_and (ha : PT X a tA) (hb : PW X (.BoolOp .And (b :: rest) pos) tB') : PW X (.BoolOp .And (a :: b :: rest) pos) (tAnd tA tB') := by
  intro wh pins s σ H Q I h
  refine isTrue_and (thn (ha pins s σ H _ I h) fun c s1 ⟨H1, I1, q1⟩ => ?_)
  cases c with
  | true => exact hb wh pins s1 σ H1 Q I1 q1
  | false => exact ⟨H1, I1, q1⟩
theorem pw_or (ha : PT X a tA) (hb : PW X (.BoolOp .Or (b :: rest) pos) tB') : PW X (.BoolOp .Or (a :: b :: rest) pos) (tOr tA tB') := by
  intro wh pins s σ H Q I h
  refine isTrue_or (thn (ha pins s σ H _ I h) fun c s1 ⟨H1, I1, q1⟩ => ?_)
  cases c with
  | true => exact ⟨H1, I1, q1⟩
  | false => exact hb wh pins s1 σ H1 Q I1 q1
theorem pt_not (ha : PT X a tA) : PT X (.UnaryOp .Not a pos) (tNot tA) := by
  intro pins s σ H Q I h
  exact isTrue_not (ha pins s σ H (fun c H1 => Q (!c) H1) I h)
/-- .. as values (bools) -/
def tAndV (ta tb : TE) : TE := fun σ H Q => ta σ H fun x H1 => ∃ c, x = .bl c ∧ if c = true then tb σ H1 Q else Q (.bl false) H1
def tOrV (ta tb : TE) : TE := fun σ H Q => ta σ H fun x H1 => ∃ c, x = .bl c ∧ if c = true then Q (.bl true) H1 else tb σ H1 Q
def tNotV (ta : TE) : TE := fun σ H Q => ta σ H fun x H1 => ∃ c, x = .bl c ∧ Q (.bl (!c)) H1
theorem pe_one {op} {t : TE} (h : PE X a t) : PE X (.BoolOp op [a] pos) t := fun pins s σ H Q I hw => BoolOp_one (h pins s σ H Q I hw)
theorem pe_and (ha : PE X a ta) (hb : PE X (.BoolOp .And (b :: rest) pos) tb) : PE X (.BoolOp .And (a :: b :: rest) pos) (tAndV ta tb) := by
  intro pins s σ H Q I h
  refine BoolOp_and (thn (ha pins s σ H _ I h) fun v s1 ⟨x, H1, I1, r1, q1⟩ => ?_)
  obtain ⟨c, rfl, q1⟩ := q1
  cases r1
  refine wpAny_truthy_bool ?_
  cases c with
  | true => exact hb pins s1 σ H1 Q I1 q1
  | false => exact ⟨.bl false, H1, I1, rfl, q1⟩
theorem pe_or (ha : PE X a ta) (hb : PE X (.BoolOp .Or (b :: rest) pos) tb) : PE X (.BoolOp .Or (a :: b :: rest) pos) (tOrV ta tb) := by
  intro pins s σ H Q I h
  refine BoolOp_or (thn (ha pins s σ H _ I h) fun v s1 ⟨x, H1, I1, r1, q1⟩ => ?_)
  obtain ⟨c, rfl, q1⟩ := q1
  cases r1
  refine wpAny_truthy_bool ?_
  cases c with
  | false => exact hb pins s1 σ H1 Q I1 q1
  | true => exact ⟨.bl true, H1, I1, rfl, q1⟩
theorem pe_not (ha : PE X a ta) : PE X (.UnaryOp .Not a pos) (tNotV ta) := by
  intro pins s σ H Q I h
  refine UnaryOp_ (thn (ha pins s σ H _ I h) fun v s1 ⟨x, H1, I1, r1, q1⟩ => ?_)
  obtain ⟨c, rfl, q1⟩ := q1
  cases r1
  exact not_of (wpAny_truthy_bool ⟨.bl (!c), H1, I1, rfl, q1⟩)
/-- a if t else b -/
def tIf (t : TT) (ta tb : TE) : TE := fun σ H Q => t σ H fun c H1 => if c = true then ta σ H1 Q else tb σ H1 Q
theorem pe_ifExp {c : Expr} (hc : PT X c tA) (ha : PE X a ta) (hb : PE X b tb) : PE X (.IfExp c a b pos) (tIf tA ta tb) := by
  intro pins s σ H Q I h
  refine wpAny_IfExp (thn (hc pins s σ H _ I h) fun d s1 ⟨H1, I1, q1⟩ => ?_)
  cases d with
  | true => exact ha pins s1 σ H1 Q I1 q1
  | false => exact hb pins s1 σ H1 Q I1 q1
end
end L2

namespace L2
open PySem PySem.Spec PyProof.Rows

/-! ### a list, a tuple that is read: tracked, frozen, or an object of the module -/
def SqL (K : PySem.W.Frag) (H : Hp) (a : Addr) (xs : List V) : Prop :=
  Rd H a (.lst xs) ∨
    ∃ (o : Obj) (its : Array Value) (n : Nat), K.lookup a = some o ∧ o.cls = .type "list" ∧ o.dict = none ∧ o.data = .seq its n ∧ its.size ≤ sizeLine ∧ Vals xs its.toList
def SqT (K : PySem.W.Frag) (H : Hp) (a : Addr) (xs : List V) : Prop :=
  Rd H a (.tup xs) ∨
    ∃ (o : Obj) (its : Array Value) (n : Nat), K.lookup a = some o ∧ o.cls = .type "tuple" ∧ o.data = .seq its n ∧ its.size ≤ sizeLine ∧ Vals xs its.toList
def absV : Value → Option V
  | .none => some .non
  | .bool b => some (.bl b)
  | .int i _ => some (.int i)
  | .str x _ => some (.str x)
  | .bytes b _ => some (.byt b)
  | .float b _ => some (.flt b)
  | .ref a => some (.ref a)
  | .type n => some (.ty n)
  | _ => none
theorem RelV.abs {x : V} {u : Value} (r : RelV x u) : absV u = some x := by
  cases x with
  | non => cases r; rfl
  | bl _ => cases r; rfl
  | int _ => obtain ⟨t, rfl⟩ := r; rfl
  | str _ => obtain ⟨t, rfl⟩ := r; rfl
  | byt _ => obtain ⟨t, rfl⟩ := r; rfl
  | flt _ => obtain ⟨t, rfl⟩ := r; rfl
  | ref _ => cases r; rfl
  | ty _ => cases r; rfl
theorem RelV.inj {x y : V} {u : Value} (r : RelV x u) (q : RelV y u) : x = y := Option.some.inj (r.abs.symm.trans q.abs)
theorem Vals.inj : ∀ {xs ys : List V} {us : List Value}, Vals xs us → Vals ys us → xs = ys
  | _, _, _, .nil, .nil => rfl
  | _, _, _, .cons r t, .cons r' t' => by rw [r.inj r', Vals.inj t t']
section
variable {X : Cx} {pins : List (Addr × Obj)} {σ : St} {H : Hp} {s : Shared} {a : Addr} {xs ys : List V}
theorem SqL.of {K : PySem.W.Frag} (h : H a = some (.lst xs)) : SqL K H a xs := .inl (.inl h)
theorem SqT.of {K : PySem.W.Frag} (h : H a = some (.tup xs)) : SqT K H a xs := .inl (.inl h)
theorem Inv.list (I : Inv X pins σ H s) (h : SqL X.K H a xs) : ∃ its : List Value, Vals xs its ∧ PlainL s.heap a its.toArray ∧ xs.length ≤ sizeLine := by
  rcases h with h | ⟨o, its, n, hk, hc, hd, hs, hz, r⟩
  · obtain ⟨z, its, n, r, e⟩ := h.ok I.hok
    exact ⟨its, r, ⟨_, n, e, rfl, rfl, rfl⟩, z⟩
  · refine ⟨its.toList, r, ⟨o, n, I.kIn a o hk, hc, hd, by simpa using hs⟩, ?_⟩
    have e := r.length
    simp only [Array.length_toList] at e
    omega
theorem Inv.tuple (I : Inv X pins σ H s) (h : SqT X.K H a xs) : ∃ its : List Value, Vals xs its ∧ IsTup s.heap a its.toArray ∧ xs.length ≤ sizeLine := by
  rcases h with h | ⟨o, its, n, hk, hc, hs, hz, r⟩
  · obtain ⟨z, its, r, p⟩ := h.ok I.hok
    exact ⟨its, r, p, z⟩
  · refine ⟨its.toList, r, ⟨o, I.kIn a o hk, hc, n, by simpa using hs⟩, ?_⟩
    have e := r.length
    simp only [Array.length_toList] at e
    omega
theorem Inv.list_inj (I : Inv X pins σ H s) (h : SqL X.K H a xs) (h' : SqL X.K H a ys) : xs = ys := by
  obtain ⟨its, r, ⟨o, n, e, _, _, d⟩, _⟩ := I.list h
  obtain ⟨its', r', ⟨o', n', e', _, _, d'⟩, _⟩ := I.list h'
  rw [e] at e'; cases e'
  rw [d] at d'
  injection d' with d1 _
  have : its = its' := by simpa using congrArg Array.toList d1
  subst this
  exact r.inj r'
theorem Inv.tuple_inj (I : Inv X pins σ H s) (h : SqT X.K H a xs) (h' : SqT X.K H a ys) : xs = ys := by
  obtain ⟨its, r, ⟨o, e, _, n, d⟩, _⟩ := I.tuple h
  obtain ⟨its', r', ⟨o', e', _, n', d'⟩, _⟩ := I.tuple h'
  rw [e] at e'; cases e'
  rw [d] at d'
  injection d' with d1 _
  have : its = its' := by simpa using congrArg Array.toList d1
  subst this
  exact r.inj r'
end

/-! ### another wish about exceptions -/
abbrev Cx.wish (X : Cx) (E : Value → Shared → Prop) : Cx := { X with xe := E }
/-- no exception leaves -/
abbrev Cx.nox (X : Cx) : Cx := X.wish fun _ _ => False
theorem Cx.Ok.wish {X : Cx} (ok : X.Ok) (E : Value → Shared → Prop) : (X.wish E).Ok :=
  ⟨ok.mod, ok.kind, ok.glob, ok.blt, ok.above, ok.inj, ok.has, ok.cab, ok.hd, ok.frames, ok.stk, ok.exf, ok.bs, ok.bsz, ok.noex, ok.exfs, ok.funs, ok.frf⟩
theorem Cx.Ok.unwish {X : Cx} {E : Value → Shared → Prop} (ok : (X.wish E).Ok) : X.Ok :=
  ⟨ok.mod, ok.kind, ok.glob, ok.blt, ok.above, ok.inj, ok.has, ok.cab, ok.hd, ok.frames, ok.stk, ok.exf, ok.bs, ok.bsz, ok.noex, ok.exfs, ok.funs, ok.frf⟩
section
variable {X : Cx} {pins : List (Addr × Obj)} {σ : St} {H : Hp} {s : Shared} {E : Value → Shared → Prop}
theorem Inv.wish (I : Inv X pins σ H s) (E : Value → Shared → Prop) : Inv (X.wish E) pins σ H s := ⟨I.ok.wish E, I.os, I.bare, I.base, I.loc, I.cell, I.free, I.freeC, I.pin, I.hok, I.len⟩
theorem Inv.unwish (I : Inv (X.wish E) pins σ H s) : Inv X pins σ H s := ⟨I.ok.unwish, I.os, I.bare, I.base, I.loc, I.cell, I.free, I.freeC, I.pin, I.hok, I.len⟩
theorem SP.unwish {D : Ends} {f : Flow} {s' : Shared} (h : SP (X.wish E) pins D f s') : SP X pins D f s' := by
  cases f with
  | next => obtain ⟨σ', H', I, q⟩ := h; exact ⟨σ', H', I.unwish, q⟩
  | brk => obtain ⟨σ', H', I, q⟩ := h; exact ⟨σ', H', I.unwish, q⟩
  | cont => obtain ⟨σ', H', I, q⟩ := h; exact ⟨σ', H', I.unwish, q⟩
  | ret u => obtain ⟨v, σ', H', I, r, q⟩ := h; exact ⟨v, σ', H', I.unwish, r, q⟩
theorem PE.nox {e : Expr} {t : TE} (h : PE X.nox e t) : PE X e t := fun pins s σ H Q I hw =>
  wpAny_mono (h pins s σ H Q (I.wish _) hw) (fun _ _ ⟨v, H', I', r, q⟩ => ⟨v, H', I'.unwish, r, q⟩) fun _ _ z => False.elim z
theorem PT.nox {e : Expr} {t : TT} (h : PT X.nox e t) : PT X e t := fun pins s σ H Q I hw =>
  wpAny_mono (h pins s σ H Q (I.wish _) hw) (fun _ _ ⟨H', I', q⟩ => ⟨H', I'.unwish, q⟩) fun _ _ z => False.elim z
theorem PSs.nox {st : List Stmt} {t : TS} (h : PSs X.nox st t) : PSs X st t := fun pins s σ H D I hw =>
  wpAny_mono (h pins s σ H D (I.wish _) hw) (fun _ _ q => q.unwish) fun _ _ z => False.elim z
end

/-! ### blocks and small statements -/
section
variable {X : Cx} {st : Stmt} {rest : List Stmt} {t u : TS} {e : Expr} {te : TE} {pos : Pos}
def tNext : TS := fun D σ H => D.nx σ H
def tSeq (t u : TS) : TS := fun D σ H => t { D with nx := u D } σ H
theorem pss_nil : PSs X [] tNext := fun _ _ σ H _ I h => wpAny_execs_nil ⟨σ, H, I, h⟩
theorem pss_cons (h1 : PS X st t) (h2 : PSs X rest u) : PSs X (st :: rest) (tSeq t u) := by
  intro pins s σ H D I h
  refine wpAny_execs_cons (thn (h1 pins s σ H { D with nx := u D } I h) fun f s1 q => ?_)
  cases f with
  | next =>
    obtain ⟨σ', H', I', q⟩ := q
    exact h2 pins s1 σ' H' D I' q
  | ret v => exact q
  | brk => exact q
  | cont => exact q
theorem pss_one (h1 : PS X st t) : PSs X [st] t := by
  intro pins s σ H D I h
  refine wpAny_execs_cons (thn (h1 pins s σ H D I h) fun f s1 q => ?_)
  cases f with
  | next => exact wpAny_execs_nil q
  | ret v => exact q
  | brk => exact q
  | cont => exact q
def tBreak : TS := fun D σ H => D.bk σ H
def tCont : TS := fun D σ H => D.ct σ H
theorem ps_pass : PS X (.Pass pos) tNext := fun _ _ σ H _ I h => wpAny_Pass ⟨σ, H, I, h⟩
theorem ps_break : PS X (.Break pos) tBreak := fun _ _ σ H _ I h => wpAny_Break ⟨σ, H, I, h⟩
theorem ps_continue : PS X (.Continue pos) tCont := fun _ _ σ H _ I h => wpAny_Continue ⟨σ, H, I, h⟩
/-- in a def's body nothing is shown -/
theorem Inv.quiet {pins : List (Addr × Obj)} {σ : St} {H : Hp} {s : Shared} (I : Inv X pins σ H s) : interactive X.env = false := by simp [interactive, I.ok.kind]
/-- a docstring -/
theorem ps_doc {x j pos pos'} : PS X (.Expr (.Constant (.str x) j pos) pos') tNext := fun _ s σ H _ I h => wpAny_Expr (Calls.Constant_str (show SP X _ _ .next { s with toks := s.toks + 1 } from ⟨σ, H, I.tok _, h⟩)) I.quiet
/-- an expression whose value is dropped -/
def tDrop (te : TE) : TS := fun D σ H => te σ H fun _ H1 => D.nx σ H1
theorem ps_expr (he : PE X e te) (hs : swapsWith e none pos.line X.env = pure false := by rfl) : PS X (.Expr e pos) (tDrop te) := by
  intro pins s σ H D I h
  exact wpAny_Expr_any (thn (he pins s σ H _ I h) fun v s1 ⟨x, H1, I1, r1, q1⟩ => ⟨σ, H1, I1, q1⟩) I.quiet hs
def tRet (te : TE) : TS := fun D σ H => te σ H D.rt
theorem ps_ret (he : PE X e te) : PS X (.Return (some e) pos) (tRet te) := by
  intro pins s σ H D I h
  exact wpAny_Return_some (thn (he pins s σ H _ I h) fun v s1 ⟨x, H1, I1, r1, q1⟩ => ⟨x, σ, H1, I1, r1, q1⟩)
def tRetN : TS := fun D _ H => D.rt .non H
theorem ps_retN : PS X (.Return none pos) tRetN := fun _ _ σ H _ I h => wpAny_Return_none ⟨.non, σ, H, I, rfl, h⟩
def tIfS (c : TT) (t u : TS) : TS := fun D σ H => c σ H fun b H1 => if b = true then t D σ H1 else u D σ H1
theorem ps_if {c : Expr} {a b : List Stmt} {tc : TT} (hc : PT X c tc) (ha : PSs X a t) (hb : PSs X b u) : PS X (.If c a b pos) (tIfS tc t u) := by
  intro pins s σ H D I h
  refine wpAny_If (thn (hc pins s σ H _ I h) fun d s1 ⟨H1, I1, q1⟩ => ?_)
  cases d with
  | true => exact ha pins s1 σ H1 D I1 q1
  | false => exact hb pins s1 σ H1 D I1 q1
/-- code that the proof never comes to -/
def tNever : TS := fun _ _ _ => False
theorem ps_never : PS X st tNever := fun _ _ _ _ _ _ h => h.elim
theorem pss_never {sts : List Stmt} : PSs X sts tNever := fun _ _ _ _ _ _ h => h.elim
end

/-! ### targets -/
abbrev TG := V → St → Hp → (St → Hp → Prop) → Prop
abbrev TGs := List V → St → Hp → (St → Hp → Prop) → Prop
def PG (X : Cx) (target : Expr) (t : TG) : Prop :=
  ∀ (pins : List (Addr × Obj)) (s : Shared) (σ : St) (H : Hp) (v : V) (u : Value) (Q : St → Hp → Prop), Inv X pins σ H s → RelV v u → t v σ H Q →
    wpAny (model X.prog X.w) X.A (assign target X.env u) (fun _ s' => ∃ σ' H', Inv X pins σ' H' s' ∧ Q σ' H') X.xe s
/-- several targets, one after another -/
def PGs (X : Cx) (ts : List Expr) (t : TGs) : Prop :=
  ∀ (pins : List (Addr × Obj)) (s : Shared) (σ : St) (H : Hp) (vs : List V) (us : List Value) (Q : St → Hp → Prop), Inv X pins σ H s → Vals vs us → t vs σ H Q →
    wpAny (model X.prog X.w) X.A (assignInOrder ((assignEach ts X.env).map (·.2)) us) (fun _ s' => ∃ σ' H', Inv X pins σ' H' s' ∧ Q σ' H') X.xe s
/-- o[i] = v, by values -/
abbrev TSet := V → V → V → Hp → (Hp → Prop) → Prop
def PSet (X : Cx) (t : TSet) : Prop :=
  ∀ (pins : List (Addr × Obj)) (s : Shared) (σ : St) (H : Hp) (o i v : V) (ov iv u : Value) (Q : Hp → Prop), Inv X pins σ H s → RelV o ov → RelV i iv → RelV v u → t o i v H Q →
    wpAny (model X.prog X.w) X.A (setItem ov iv u) (fun _ s' => ∃ H', Inv X pins σ H' s' ∧ Q H') X.xe s
/-- a op= b, by values -/
abbrev TIp := V → V → Hp → VK → Prop
def PIp (X : Cx) (op : Operator) (t : TIp) : Prop :=
  ∀ (pins : List (Addr × Obj)) (s : Shared) (σ : St) (H : Hp) (x y : V) (v u : Value) (Q : VK), Inv X pins σ H s → RelV x v → RelV y u → t x y H Q →
    wpAny (model X.prog X.w) X.A (inplaceOp op v u) (EP X pins σ Q) X.xe s
section
variable {X : Cx} {pos : Pos}
def gName (i : Nat) : TG := fun v σ H Q => Q (σ.set i (some v)) H
theorem pg_name {i : Nat} {x : Str} (hN : X.N.Nodup) (hi : X.N[i]? = some x) (hx : Loc X.env.scope x) (hf : X.fn x = true ∨ X.env.scope.names.lookup x = some .local := by first | exact .inl rfl | exact .inr rfl | assumption) : PG X (.Name x pos) (gName i) := by
  intro pins s σ H v u Q I r h
  exact wpAny_assign_Name (store_ok I hN hi hx r (fun s' I' => ⟨_, H, I', h⟩) hf)
def gNil : TGs := fun vs σ H Q => vs = [] ∧ Q σ H
def gCons (t : TG) (u : TGs) : TGs := fun vs σ H Q => ∃ v r, vs = v :: r ∧ t v σ H fun σ' H' => u r σ' H' Q
theorem pgs_nil : PGs X [] gNil := by
  intro pins s σ H vs us Q I r h
  obtain ⟨e, h⟩ := h
  subst e
  cases r
  exact assignInOrder_nil ⟨σ, H, I, h⟩
theorem pgs_cons {e : Expr} {es : List Expr} {t : TG} {u : TGs} (h1 : PG X e t) (h2 : PGs X es u)
    (hs : (assignEach (e :: es) X.env).map (·.2) = assign e X.env :: (assignEach es X.env).map (·.2) := by rfl) : PGs X (e :: es) (gCons t u) := by
  intro pins s σ H vs us Q I r h
  obtain ⟨v, vr, e1, h⟩ := h
  subst e1
  cases r with
  | cons r rr =>
    rw [hs]
    refine assignInOrder_cons (thn (h1 pins s σ H _ _ _ I r h) fun _ s1 ⟨σ1, H1, I1, q1⟩ => ?_)
    exact h2 pins s1 σ1 H1 _ _ Q I1 rr q1
/-- (a, b, ..) = a tuple of that length -/
def gTup (K : PySem.W.Frag) (n : Nat) (t : TGs) : TG := fun v σ H Q => ∃ a xs, v = .ref a ∧ SqT K H a xs ∧ xs.length = n ∧ t xs σ H Q
theorem pg_tup {es : List Expr} {k : Nat} {t : TGs} {n : Nat} (hc : X.calm = true) (h : PGs X es t)
    (hn : (assignEach es X.env).length = n := by rfl) (hst : (assignEach es X.env).findIdx? (·.1) = none := by rfl) : PG X (.Tuple es k pos) (gTup X.K n t) := by
  intro pins s σ H v u Q I r hw
  obtain ⟨a, xs, e1, hq, hl, hw⟩ := hw
  subst e1
  cases r
  obtain ⟨its, rv, ht, hz⟩ := I.tuple hq
  refine assign_Tuple_tuple (I.ok.hd hc) ht (by simp [hn, ← hl, rv.length]) hst fun h' hx => ?_
  have I1 : Inv X pins σ H { s with heap := h' } := I.kept (t' := s.toks) fun b o e => hx b o (Nat.ne_of_lt (Heap.lt_size e)) e
  exact h pins _ σ H xs _ Q I1 (by simpa using rv) hw
/-- o[i] = .. -/
def gSub (to ti : TE) (t : TSet) : TG := fun v σ H Q => to σ H fun o H1 => ti σ H1 fun i H2 => t o i v H2 fun H3 => Q σ H3
theorem pg_sub {o i : Expr} {to ti : TE} {t : TSet} (ho : PE X o to) (hi : PE X i ti) (hs : PSet X t)
    (ha : ∀ v, assign (.Subscript o i pos) X.env v = (do
      let ov ← holding [v] (eval o X.env)
      let iv ← holding [v, ov] (eval i X.env)
      standAt pos
      holding [v, ov, iv] (setItem ov iv v)
      release [v, ov, iv] []) := by intro _; rfl) : PG X (.Subscript o i pos) (gSub to ti t) := by
  intro pins s σ H v u Q I r h
  rw [ha]
  refine wpAny_bind (wpAny_holding (thn (ho pins s σ H _ I h) fun ov s1 ⟨x, H1, I1, r1, q1⟩ => ?_))
  refine wpAny_bind (wpAny_holding (thn (hi pins s1 σ H1 _ I1 q1) fun iv s2 ⟨y, H2, I2, r2, q2⟩ => ?_))
  refine wpAny_bind (wpAny_standAt (wpAny_bind (wpAny_holding (thn (hs pins s2 σ H2 x y v ov iv u _ I2 r1 r2 r q2) fun _ s3 ⟨H3, I3, q3⟩ => ?_))))
  exact wpAny_release ⟨σ, H3, I3, q3⟩
/-- target = value -/
def tAsg (te : TE) (g : TG) : TS := fun D σ H => te σ H fun x H1 => g x σ H1 D.nx
theorem ps_asg {tg e : Expr} {te : TE} {g : TG} (he : PE X e te) (hg : PG X tg g) (hs : swapsWithSole [tg] e pos.line X.env = pure false := by rfl) (hw : swappedStores [tg] e X.env = pure none := by rfl)
    (h1 : (assignEach [tg] X.env).map (·.2) = [assign tg X.env] := by rfl) : PS X (.Assign [tg] e pos) (tAsg te g) := by
  intro pins s σ H D I h
  refine wpAny_Assign_stores (thn (he pins s σ H _ I h) fun v s1 ⟨x, H1, I1, r1, q1⟩ => ?_) hs hw
  rw [h1]
  exact thn (hg pins s1 σ H1 x v _ I1 r1 q1) fun _ s2 q => q
/-- name = value -/
theorem ps_set {i : Nat} {x : Str} {e : Expr} {te : TE} {pos' : Pos} (hN : X.N.Nodup) (hi : X.N[i]? = some x) (hx : Loc X.env.scope x) (he : PE X e te) (hs : swapsWith e (some (.Name x pos')) pos.line X.env = pure false := by rfl) (hf : X.fn x = true ∨ X.env.scope.names.lookup x = some .local := by first | exact .inl rfl | exact .inr rfl | assumption) :
    PS X (.Assign [.Name x pos'] e pos) (tAsg te (gName i)) := by
  intro pins s σ H D I h
  refine wpAny_Assign_Name (thn (he pins s σ H _ I h) fun v s1 ⟨y, H1, I1, r1, q1⟩ => ?_) hs
  exact store_ok I1 hN hi hx r1 (fun s2 I2 => ⟨_, H1, I2, q1⟩) hf
/-- a, b = x, y with plain local names: stored from the right; the pair itself is not tracked (the opening rows as in PyProof/Rows/TupAssign.lean:23) -/
def tPar (i j : Nat) (ta : TA) : TS := fun D σ H => ta σ H fun vs H1 => ∃ v w, vs = [v, w] ∧ D.nx ((σ.set i (some v)).set j (some w)) H1
theorem ps_par {i j : Nat} {x y : Str} {a b : Expr} {ta : TA} {px py pt : Pos} {kt k2 pt2} (hc : X.calm = true) (hN : X.N.Nodup) (hi : X.N[i]? = some x) (hj : X.N[j]? = some y) (hij : i ≠ j)
    (hx : X.env.scope.names.lookup x = some .local) (hy : X.env.scope.names.lookup y = some .local) (ha : PA X [a, b] ta)
    (hw : swappedStores [.Tuple [.Name x px, .Name y py] kt pt] (.Tuple [a, b] k2 pt2) X.env = pure (some [x, y]))
    (hs : swapsWithSole [.Tuple [.Name x px, .Name y py] kt pt] (.Tuple [a, b] k2 pt2) pos.line X.env = pure false := by rfl) :
    PS X (.Assign [.Tuple [.Name x px, .Name y py] kt pt] (.Tuple [a, b] k2 pt2) pos) (tPar i j ta) := by
  intro pins s σ H D I h
  rw [exec_Assign_arm]
  refine wpAny_bind (wpAny_standAt ?_)
  rw [hs]
  refine wpAny_bind (wpAny_pure ?_)
  rw [if_neg (by decide)]
  refine wpAny_bind (Tuple_ (thn (ha _ pins s σ H _ I h) fun us s1 ⟨vs, H1, I1, r1, q1⟩ => ?_))
  obtain ⟨v, w, e1, q1⟩ := q1
  subst e1
  obtain ⟨u1, u2, rfl, rv, rw'⟩ : ∃ u1 u2, us = [u1, u2] ∧ RelV v u1 ∧ RelV w u2 := by
    cases r1 with
    | cons p q =>
      cases q with
      | cons p' q' =>
        cases q'
        exact ⟨_, _, rfl, p, p'⟩
  refine wpAny_newObj_type ?_ (by show 2 ≤ sizeLine; decide)
  have I2 : Inv X pins σ H1 { s1 with heap := s1.heap.push { cls := .type "tuple", data := .seq [u1, u2].toArray } } := I1.kept (t' := s1.toks) fun b o e => Heap.get?_push_of_some _ e
  rw [hw]
  refine wpAny_bind (wpAny_pure ?_)
  show wpAny (model X.prog X.w) X.A (do rule "assign.swapped-stores"; let items ← unpackItems (.ref s1.heap.objs.size) 2 none; assignInOrder [fun v => bindName X.env y v, fun v => bindName X.env x v] items.reverse; pure Flow.next) _ _ _
  refine wpAny_bind (wpAny_rule (wpAny_bind (unpackItems_tuple (items := #[u1, u2]) (I.ok.hd hc) (IsTup.new s1.heap _) fun h' hx' => ?_)))
  have I3 := I2.kept (h' := h') (t' := s1.toks) fun b o e => hx' b o (Nat.ne_of_lt (Heap.lt_size e)) e
  show wpAny _ _ (assignInOrder [fun v => bindName X.env y v, fun v => bindName X.env x v] [u2, u1] >>= fun _ => pure Flow.next) _ _ _
  refine wpAny_bind (assignInOrder_cons (wpAny_bindName (store_ok I3 hN hj (.inl hy) rw' (fun s2 I4 => ?_) (.inr hy))))
  refine assignInOrder_cons (wpAny_bindName (store_ok I4 hN hi (.inl hx) rv (fun s3 I5 => assignInOrder_nil (wpAny_pure ?_)) (.inr hx)))
  rw [List.set_comm _ _ (Ne.symm hij)] at I5
  exact ⟨_, H1, I5, q1⟩
/-- name op= e -/
def tAug (i : Nat) (te : TE) (ti : TIp) : TS := fun D σ H => ∃ x, σ[i]? = some (some x) ∧ te σ H fun y H1 => ti x y H1 fun z H2 => D.nx (σ.set i (some z)) H2
theorem ps_aug {i : Nat} {x : Str} {e : Expr} {te : TE} {op : Operator} {ti : TIp} {pos' : Pos} (hN : X.N.Nodup) (hi : X.N[i]? = some x) (hx : Loc X.env.scope x) (he : PE X e te) (ho : PIp X op ti) (hf : X.fn x = true ∨ X.env.scope.names.lookup x = some .local := by first | exact .inl rfl | exact .inr rfl | assumption) :
    PS X (.AugAssign (.Name x pos') op e pos) (tAug i te ti) := by
  intro pins s σ H D I h
  obtain ⟨v, e1, h⟩ := h
  obtain ⟨m, hn, hl⟩ := I.loc
  have vis : Vis X.env.scope x := by rcases hx with k | k; exact .inl k; exact .inr (.inl k)
  obtain ⟨u, r, l⟩ := hl i x v hi e1 vis
  refine wpAny_AugAssign_Name ?_
  have go : wpAny (model X.prog X.w) X.A (eval e X.env) (fun w s₂ => wpAny (model X.prog X.w) X.A (inplaceOp op u w) (fun r s₃ => wpAny (model X.prog X.w) X.A (storeName X.env x r) (fun _ => SP X pins D .next) X.xe s₃) X.xe s₂) X.xe s := by
    refine thn (he pins s σ H _ I h) fun w s1 ⟨y, H1, I1, r1, q1⟩ => ?_
    refine thn (ho pins s1 σ H1 v y u w _ I1 r r1 q1) fun z s2 ⟨zv, H2, I2, r2, q2⟩ => ?_
    exact store_ok I2 hN hi hx r2 (fun s3 I3 => ⟨_, H2, I3, q2⟩) hf
  rcases l with ⟨hk, hm⟩ | ⟨hk, c, hc, hcell⟩
  · exact wpAny_loadName_local I.ok.kind hk hn hm go
  · rcases hk with hk | hk
    · exact wpAny_loadName_cell I.ok.kind hk hc hcell go
    · rcases hx with k | k
      · have : X.env.scope.names.lookup x = some .free := hk
        rw [k] at this; cases this
      · have : X.env.scope.names.lookup x = some .free := hk
        rw [k] at this; cases this
/-- o[i] op= e -/
def tAugS (to ti te : TE) (tget : V → V → Hp → VK → Prop) (tip : TIp) (tset : TSet) : TS := fun D σ H => to σ H fun o H1 => ti σ H1 fun i H2 => tget o i H2 fun x H3 => te σ H3 fun y H4 => tip x y H4 fun z H5 => tset o i z H5 fun H6 => D.nx σ H6
/-- o[i], by values -/
def PGet (X : Cx) (t : V → V → Hp → VK → Prop) : Prop :=
  ∀ (pins : List (Addr × Obj)) (s : Shared) (σ : St) (H : Hp) (o i : V) (ov iv : Value) (Q : VK), Inv X pins σ H s → RelV o ov → RelV i iv → t o i H Q →
    wpAny (model X.prog X.w) X.A (getItem ov iv) (EP X pins σ Q) X.xe s
theorem ps_augS {o i e : Expr} {to ti te : TE} {tget : V → V → Hp → VK → Prop} {tip : TIp} {tset : TSet} {op : Operator} {tpos : Pos} (ho : PE X o to) (hi : PE X i ti) (hg : PGet X tget) (he : PE X e te) (hp : PIp X op tip) (hs : PSet X tset)
    (ha : ∀ ov iv new, augStore i ov iv new = (do holding [new, ov, iv] (setItem ov iv new); release [new, ov, iv] []; pure .next) := by intros; rfl) : PS X (.AugAssign (.Subscript o i tpos) op e pos) (tAugS to ti te tget tip tset) := by
  intro pins s σ H D I h
  refine wpAny_AugAssign_SubscriptAny (thn (ho pins s σ H _ I h) fun ov s1 ⟨x1, H1, I1, r1, q1⟩ => ?_) ha
  refine thn (hi pins s1 σ H1 _ I1 q1) fun iv s2 ⟨x2, H2, I2, r2, q2⟩ => ?_
  refine thn (hg pins s2 σ H2 x1 x2 ov iv _ I2 r1 r2 q2) fun old s3 ⟨x3, H3, I3, r3, q3⟩ => ?_
  refine thn (he pins s3 σ H3 _ I3 q3) fun v s4 ⟨x4, H4, I4, r4, q4⟩ => ?_
  refine thn (hp pins s4 σ H4 x3 x4 old v _ I4 r3 r4 q4) fun new s5 ⟨x5, H5, I5, r5, q5⟩ => ?_
  exact thn (hs pins s5 σ H5 x1 x2 x5 ov iv new _ I5 r1 r2 r5 q5) fun _ s6 ⟨H6, I6, q6⟩ => ⟨σ, H6, I6, q6⟩
/-- ints -/
def ipI (f : Int → Int → Int) : TIp := fun x y H Q => ∃ i j, x = .int i ∧ y = .int j ∧ Q (.int (f i j)) H
theorem ip_add : PIp X .Add (ipI fun i j => i + j) := by
  intro pins s σ H x y v u Q I r1 r2 h
  obtain ⟨i, j, e1, e2, q⟩ := h
  subst e1; subst e2
  obtain ⟨t, rfl⟩ := r1
  obtain ⟨t', rfl⟩ := r2
  exact iadd_int ⟨.int _, H, I.tok _, ⟨_, rfl⟩, q⟩
theorem ip_sub : PIp X .Sub (ipI fun i j => i - j) := by
  intro pins s σ H x y v u Q I r1 r2 h
  obtain ⟨i, j, e1, e2, q⟩ := h
  subst e1; subst e2
  obtain ⟨t, rfl⟩ := r1
  obtain ⟨t', rfl⟩ := r2
  exact isub_int ⟨.int _, H, I.tok _, ⟨_, rfl⟩, q⟩
end

/-! ### while -/
section
variable {X : Cx} {pos : Pos}
/-- the invariant W with its measure -/
def tWhile (c : TT) (tb : TS) : TS := fun D σ H => ∃ W : Nat → St → Hp → Prop, (∃ m, W m σ H) ∧ ∀ m σ H, W m σ H →
  c σ H fun b H1 => if b = true then ∃ N : St → Hp → Prop, (∀ σ' H', N σ' H' → ∃ m', m' < m ∧ W m' σ' H') ∧ tb { D with nx := N, ct := N, bk := D.nx } σ H1 else D.nx σ H1
theorem ps_while {c : Expr} {body : List Stmt} {tc : TT} {tb : TS} (hp : PassesOwn (model X.prog X.w) X.A X.env X.xe) (hc : PT X c tc) (hb : PSs X body tb) : PS X (.While c body [] pos) (tWhile tc tb) := by
  intro pins s σ H D I h
  obtain ⟨W, ⟨m0, w0⟩, turn⟩ := h
  refine wpAny_While (codeAny_whileLoop (fun n s' => ∃ σ' H', Inv X pins σ' H' s' ∧ W n σ' H') ?_ m0 ⟨σ, H, I, w0⟩)
  rintro n s1 ⟨σ1, H1, I1, w1⟩
  refine wpAny_passesOwn hp (thn (hc pins s1 σ1 H1 _ I1 (turn n σ1 H1 w1)) fun b s2 ⟨H2, I2, q2⟩ => ?_)
  cases b with
  | true =>
    obtain ⟨N, hN, q2⟩ := q2
    rw [if_pos rfl]
    refine wpAny_passesOwn hp (thn (hb pins s2 σ1 H2 _ I2 q2) fun f s3 q3 => ?_)
    cases f with
    | next =>
      obtain ⟨σ3, H3, I3, n3⟩ := q3
      obtain ⟨m', hm, w3⟩ := hN σ3 H3 n3
      exact ⟨m', hm, σ3, H3, I3, w3⟩
    | cont =>
      obtain ⟨σ3, H3, I3, n3⟩ := q3
      obtain ⟨m', hm, w3⟩ := hN σ3 H3 n3
      exact ⟨m', hm, σ3, H3, I3, w3⟩
    | brk => exact q3
    | ret v => exact q3
  | false =>
    rw [if_neg Bool.false_ne_true]
    exact wpAny_execs_nil ⟨σ1, H2, I2, q2⟩
end

/-! ### what a loop or a comprehension walks -/
/-- at turn i: it yields x (the heap may grow), or it stops -/
structure It where
  go : Nat → Hp → Prop
  yld : Nat → Hp → V → Hp → Prop
  stop : Nat → Hp → Prop
/-- the iterator's own objects may turn: they are not the frame's, not pinned, younger than the entry (or a comprehension's own) -/
def FpOk (X : Cx) (pins : List (Addr × Obj)) (H : Hp) (b : Addr) : Prop :=
  H b = none ∧ b ≠ X.env.locals ∧ b ∉ X.fs ∧ (b ∈ X.ex ∨ X.s₀.heap.objs.size ≤ b) ∧ (∀ x c, X.env.cells.lookup x = some c → c ≠ b) ∧ ∀ p ∈ X.pn ++ pins, p.1 ≠ b
theorem Inv.fpOk {X : Cx} {pins : List (Addr × Obj)} {σ : St} {H H' : Hp} {s : Shared} {b : Addr} (I : Inv X pins σ H s) (hb : s.heap.objs.size ≤ b) (hn : H' b = none) : FpOk X pins H' b := by
  refine ⟨hn, Nat.ne_of_gt (Nat.lt_of_lt_of_le I.lt hb), I.nofs hb, .inr (Nat.le_trans I.sz hb), fun x c e z => ?_, fun p hp z => ?_⟩
  · obtain ⟨v, q⟩ := I.cell x c e
    exact absurd (Nat.lt_of_lt_of_le q.lt (by rw [z]; exact hb)) (Nat.lt_irrefl _)
  · exact absurd (Nat.lt_of_lt_of_le (Heap.lt_size (I.pin p hp).1) (by rw [z]; exact hb)) (Nat.lt_irrefl _)
structure Turn (P : Program) (w : World) (K : PySem.W.Frag) (tg : Expr) (J : It) (fp : List Addr) (it : Addr) (tn : Nat → Heap → Prop) : Prop where
  mem : it ∈ fp
  obj : ∀ i h, tn i h → ∀ b ∈ fp, ∃ o, h.get? b = some o ∧ ∀ v, o.data ≠ .cell v
  keep : ∀ i h h', tn i h → (∀ b ∈ fp, ∀ o, h.get? b = some o → h'.get? b = some o) → tn i h'
  item : ∀ (X : Cx), X.prog = P → X.w = w → X.K = K → X.calm = true → ∀ (i : Nat) (pins : List (Addr × Obj)) (s : Shared) (σ : St) (H : Hp) (E : Value → Shared → Prop), Inv X pins σ H s → (∀ b ∈ fp, FpOk X pins H b) → tn i s.heap → J.go i H →
    wpAny (model P w) X.A (pyNext (.ref it)) (fun r s1 => ∃ u, r = some u ∧
      wpAny (model P w) X.A (letOwnedTupleGo tg (.ref it) u) (fun _ s2 => ∃ x H', Inv X pins σ H' s2 ∧ RelV x u ∧ J.yld i H x H' ∧ tn (i + 1) s2.heap ∧ ∀ b ∈ fp, H' b = none) E s1) E s
  done : ∀ (X : Cx), X.prog = P → X.w = w → X.K = K → X.calm = true → ∀ (i : Nat) (pins : List (Addr × Obj)) (s : Shared) (σ : St) (H : Hp) (E : Value → Shared → Prop), Inv X pins σ H s → (∀ b ∈ fp, FpOk X pins H b) → tn i s.heap → J.stop i H →
    wpAny (model P w) X.A (pyNext (.ref it)) (fun r s1 => r = none ∧ Inv X pins σ H s1) E s
  self : ∀ (A : Around) (i : Nat) (s : Shared) (Q : Value → Shared → Prop) (E : Value → Shared → Prop), tn i s.heap → Q (.ref it) s → wpAny (model P w) A (pyIter (.ref it)) Q E s
abbrev TI := St → Hp → (It → Hp → Prop) → Prop
/-- an iterator has come -/
def PIE (X : Cx) (pins : List (Addr × Obj)) (σ : St) (tg : Expr) (R : It → Hp → Prop) (itv : Value) (s2 : Shared) : Prop :=
  ∃ (it : Addr) (fp : List Addr) (tn : Nat → Heap → Prop) (J : It) (H' : Hp), itv = .ref it ∧ Inv X pins σ H' s2 ∧ Turn X.prog X.w X.K tg J fp it tn ∧ tn 0 s2.heap ∧ (∀ b ∈ fp, FpOk X pins H' b) ∧ R J H'
def PI (X : Cx) (tg iter : Expr) (wi : TI) : Prop :=
  ∀ (pins : List (Addr × Obj)) (s : Shared) (σ : St) (H : Hp) (R : It → Hp → Prop), Inv X pins σ H s → wi σ H R →
    wpAny (model X.prog X.w) X.A (eval iter X.env) (fun v s1 => wpAny (model X.prog X.w) X.A (pyIter v) (PIE X pins σ tg R) X.xe s1) X.xe s

/-- the step ahead of the store is nothing for an iterator that keeps no tuple -/
theorem go_of {M : Model} {A : Around} {E : Value → Shared → Prop} {s : Shared} {tg : Expr} {it : Addr} {u : Value} {o : Obj} {n : String} {vs : Array Value} {Q : Unit → Shared → Prop} (ho : s.heap.get? it = some o) (hc : o.cls = .type n) (hd : o.data = .fields vs)
    (hn : ["enumerate", "zip", "dict_itemiterator", "dict_reverseitemiterator", "odict_iterator", "itertools.zip_longest", "itertools.pairwise"].contains n = false) (hQ : Q () s) : wpAny M A (letOwnedTupleGo tg (.ref it) u) Q E s := by
  unfold letOwnedTupleGo
  cases tg <;> first
    | exact wpAny_pure hQ
    | (cases u <;> first
        | exact wpAny_pure hQ
        | (refine wpAny_bind (wpAny_load ho ?_)
           rw [hc, hd]
           show wpAny M A (if (["enumerate", "zip", "dict_itemiterator", "dict_reverseitemiterator", "odict_iterator", "itertools.zip_longest", "itertools.pairwise"].contains n && vs[0]? == some (rawInt _)) = true then _ else _) Q E s
           rw [if_neg (by intro h; rw [hn, Bool.false_and] at h; cases h)]
           exact wpAny_pure hQ))

/-- the list at a, as it stands at each turn (a loop may append to it) -/
def Itl (K : PySem.W.Frag) (a : Addr) : It :=
  ⟨fun i H => ∃ xs x, SqL K H a xs ∧ xs[i]? = some x, fun i H x H' => H' = H ∧ ∀ xs, SqL K H a xs → xs[i]? = some x, fun i H => ∃ xs, SqL K H a xs ∧ xs.length ≤ i⟩
def Itt (K : PySem.W.Frag) (a : Addr) : It :=
  ⟨fun i H => ∃ xs x, SqT K H a xs ∧ xs[i]? = some x, fun i H x H' => H' = H ∧ ∀ xs, SqT K H a xs → xs[i]? = some x, fun i H => ∃ xs, SqT K H a xs ∧ xs.length ≤ i⟩
/-- lo, lo + 1, .. (n of them) -/
def Itr (lo : Int) (n : Nat) : It := ⟨fun i _ => i < n, fun i H x H' => H' = H ∧ x = .int (lo + i), fun i _ => n ≤ i⟩
theorem turn_list {P : Program} {w : World} {K : PySem.W.Frag} {tg : Expr} (a it : Addr) : Turn P w K tg (Itl K a) [it] it (fun i h => h.IsListIter it a i) where
  mem := by simp
  obj := fun i h st b hb => by
    have e : b = it := by simpa using hb
    subst e
    obtain ⟨o, e, c, d⟩ := st
    exact ⟨o, e, fun v z => by rw [d] at z; cases z⟩
  keep := fun i h h' st k => st.at fun o e => k it (by simp) o e
  item := by
    intro X hP hw hK hc i pins s σ H E I hf st hg
    subst hP hw hK
    obtain ⟨xs, x, hq, hx⟩ := hg
    obtain ⟨its, rv, p, hz⟩ := I.list hq
    obtain ⟨u, hu, ru⟩ := rv.get hx
    obtain ⟨f0, f1, f2, f3, f4, f5⟩ := hf it (by simp)
    refine wpAny_pyNext_list_item st p.isList (x := u) (by simpa using hu) fun h' st' sb => ?_
    have I1 : Inv X pins σ H { s with heap := h' } := I.turned (t' := s.toks) (fun b o hb e => (sb.2 b hb).trans e) f0 f1 f3 f4 f5
    obtain ⟨o, e, c, d⟩ := id st'
    exact ⟨u, rfl, go_of (s := { s with heap := h' }) e c d (by decide) ⟨x, H, I1, ru, ⟨rfl, fun ys hy => by rw [I.list_inj hy hq]; exact hx⟩, st', fun b hb => (hf b hb).1⟩⟩
  done := by
    intro X hP hw hK hc i pins s σ H E I hf st hg
    subst hP hw hK
    obtain ⟨xs, hq, hx⟩ := hg
    obtain ⟨its, rv, p, hz⟩ := I.list hq
    obtain ⟨f0, f1, f2, f3, f4, f5⟩ := hf it (by simp)
    have hl := rv.length
    exact wpAny_pyNext_list_end (I.ok.hd hc) st p.isList (by simp; omega) fun h' eb => ⟨rfl, I.turned (t' := s.toks) (fun b o hb e => eb b o hb e) f0 f1 f3 f4 f5⟩
  self := fun _ _ _ _ _ st h => wpAny_pyIter_listiter st h
theorem turn_tuple {P : Program} {w : World} {K : PySem.W.Frag} {tg : Expr} (a it : Addr) : Turn P w K tg (Itt K a) [it] it (fun i h => h.IsTupleIter it a i) where
  mem := by simp
  obj := fun i h st b hb => by
    have e : b = it := by simpa using hb
    subst e
    obtain ⟨o, e, c, d⟩ := st
    exact ⟨o, e, fun v z => by rw [d] at z; cases z⟩
  keep := fun i h h' st k => st.at fun o e => k it (by simp) o e
  item := by
    intro X hP hw hK hc i pins s σ H E I hf st hg
    subst hP hw hK
    obtain ⟨xs, x, hq, hx⟩ := hg
    obtain ⟨its, rv, p, hz⟩ := I.tuple hq
    obtain ⟨u, hu, ru⟩ := rv.get hx
    obtain ⟨f0, f1, f2, f3, f4, f5⟩ := hf it (by simp)
    refine wpAny_pyNext_tuple_item st (show s.heap.IsTuple a its.toArray from p) (x := u) (by simpa using hu) fun h' st' sb => ?_
    have I1 : Inv X pins σ H { s with heap := h' } := I.turned (t' := s.toks) (fun b o hb e => (sb.2 b hb).trans e) f0 f1 f3 f4 f5
    obtain ⟨o, e, c, d⟩ := id st'
    exact ⟨u, rfl, go_of (s := { s with heap := h' }) e c d (by decide) ⟨x, H, I1, ru, ⟨rfl, fun ys hy => by rw [I.tuple_inj hy hq]; exact hx⟩, st', fun b hb => (hf b hb).1⟩⟩
  done := by
    intro X hP hw hK hc i pins s σ H E I hf st hg
    subst hP hw hK
    obtain ⟨xs, hq, hx⟩ := hg
    obtain ⟨its, rv, p, hz⟩ := I.tuple hq
    obtain ⟨f0, f1, f2, f3, f4, f5⟩ := hf it (by simp)
    have hl := rv.length
    exact wpAny_pyNext_tuple_end (I.ok.hd hc) st (show s.heap.IsTuple a its.toArray from p) (by simp; omega) fun h' eb => ⟨rfl, I.turned (t' := s.toks) (fun b o hb e => eb b o hb e) f0 f1 f3 f4 f5⟩
  self := fun _ _ _ _ _ st h => wpAny_pyIter_tupleiter st h
theorem turn_range {P : Program} {w : World} {K : PySem.W.Frag} {tg : Expr} (it : Addr) (lo : Int) (n : Nat) : Turn P w K tg (Itr lo n) [it] it (fun i h => IsRangeIter h it (lo + (i : Nat) * 1) ((n : Int) - (i : Nat)) 1) where
  mem := by simp
  obj := fun i h st b hb => by
    have e : b = it := by simpa using hb
    subst e
    exact ⟨_, st, fun v z => by
      have z' : Data.fields _ = Data.cell v := z
      cases z'⟩
  keep := fun i h h' st k => k it (by simp) _ st
  item := by
    intro X hP hw hK hc i pins s σ H E I hf st hg
    subst hP hw hK
    obtain ⟨f0, f1, f2, f3, f4, f5⟩ := hf it (by simp)
    have W := Walks.range (prog := X.prog) (w := X.w) (I.ok.hd hc) it lo 1 n
    refine W.item i s _ _ hg st fun v h' tk hv st' kk => ?_
    obtain ⟨t, rfl⟩ := hv
    have I1 : Inv X pins σ H { s with heap := h', toks := tk } := I.turned (fun b o hb e => kk b o (by simpa using hb) e) f0 f1 f3 f4 f5
    refine ⟨_, rfl, go_of (s := { s with heap := h', toks := tk }) (n := "range_iterator") st' rfl rfl (by decide) ⟨.int (lo + i), H, I1, ⟨t, ?_⟩, ⟨rfl, rfl⟩, st', fun b hb => (hf b hb).1⟩⟩
    rw [Int.mul_one]
  done := by
    intro X hP hw hK hc i pins s σ H E I hf st hg
    subst hP hw hK
    obtain ⟨f0, f1, f2, f3, f4, f5⟩ := hf it (by simp)
    exact wpAny_pyNext_range_end (I.ok.hd hc) st (by have : n ≤ i := hg; omega) fun h' eb => ⟨rfl, I.turned (t' := s.toks) (fun b o hb e => eb b o hb e) f0 f1 f3 f4 f5⟩
  self := fun _ _ _ _ _ st h => wpAny_pyIter_rangeiter st h
end L2

namespace L2
open PySem PySem.Spec PyProof.Rows
section
variable {X : Cx} {tg : Expr}
def iList (K : PySem.W.Frag) (tl : TE) : TI := fun σ H R => tl σ H fun x H1 => ∃ a, x = .ref a ∧ (∃ xs, SqL K H1 a xs) ∧ R (Itl K a) H1
def iTup (K : PySem.W.Frag) (tl : TE) : TI := fun σ H R => tl σ H fun x H1 => ∃ a, x = .ref a ∧ (∃ xs, SqT K H1 a xs) ∧ R (Itt K a) H1
theorem pi_list {l : Expr} {tl : TE} (hl : PE X l tl) : PI X tg l (iList X.K tl) := by
  intro pins s σ H R I h
  refine thn (hl pins s σ H _ I h) fun v s1 ⟨x, H1, I1, r1, q1⟩ => ?_
  obtain ⟨a, e, ⟨xs, hq⟩, q⟩ := q1
  subst e
  cases r1
  obtain ⟨its, rv, p, hz⟩ := I1.list hq
  refine wpAny_pyIter_list p.isList ?_
  refine ⟨s1.heap.objs.size, [s1.heap.objs.size], _, _, H1, rfl, I1.kept (t' := s1.toks) fun b o e => Heap.get?_push_of_some _ e, turn_list a _, ⟨_, Heap.get?_push_size _ rfl, rfl, rfl⟩, fun b hb => ?_, q⟩
  have e : b = s1.heap.objs.size := by simpa using hb
  subst e
  exact I1.fpOk (Nat.le_refl _) (I1.hok.fresh (Nat.le_refl _))
theorem pi_tup {l : Expr} {tl : TE} (hl : PE X l tl) : PI X tg l (iTup X.K tl) := by
  intro pins s σ H R I h
  refine thn (hl pins s σ H _ I h) fun v s1 ⟨x, H1, I1, r1, q1⟩ => ?_
  obtain ⟨a, e, ⟨xs, hq⟩, q⟩ := q1
  subst e
  cases r1
  obtain ⟨its, rv, p, hz⟩ := I1.tuple hq
  refine wpAny_pyIter_tuple (show s1.heap.IsTuple a its.toArray from p) ?_
  refine ⟨s1.heap.objs.size, [s1.heap.objs.size], _, _, H1, rfl, I1.kept (t' := s1.toks) fun b o e => Heap.get?_push_of_some _ e, turn_tuple a _, ⟨_, Heap.get?_push_size _ rfl, rfl, rfl⟩, fun b hb => ?_, q⟩
  have e : b = s1.heap.objs.size := by simpa using hb
  subst e
  exact I1.fpOk (Nat.le_refl _) (I1.hok.fresh (Nat.le_refl _))
/-- a range object just made, walked -/
theorem range_it {pins : List (Addr × Obj)} {σ : St} {H : Hp} {s : Shared} {R : It → Hp → Prop} {E : Value → Shared → Prop} {lo hi : Int} {t u v : Tok} {tk : Nat} (I : Inv X pins σ H s) (h1 : -(2 ^ 62) ≤ lo) (h2 : lo < 2 ^ 62) (h3 : -(2 ^ 62) ≤ hi) (h4 : hi < 2 ^ 62)
    (q : R (Itr lo (hi - lo).toNat) H) : wpAny (model X.prog X.w) X.A (pyIter (.ref s.heap.objs.size)) (PIE X pins σ tg R) E { s with heap := s.heap.push { cls := .type "range", data := .fields #[.int lo t, .int hi u, .int 1 v] }, toks := tk } := by
  refine wpAny_pyIter_range (IsRange.new ..) (small_one h1 h2 h3 h4) ?_
  have I1 : Inv X pins σ H { s with heap := s.heap.push { cls := .type "range", data := .fields #[.int lo t, .int hi u, .int 1 v] }, toks := tk } := I.kept fun b o e => Heap.get?_push_of_some _ e
  refine ⟨(s.heap.push { cls := .type "range", data := .fields #[.int lo t, .int hi u, .int 1 v] }).objs.size, [(s.heap.push { cls := .type "range", data := .fields #[.int lo t, .int hi u, .int 1 v] }).objs.size], _, _, H, rfl,
    I1.kept (t' := tk) fun b o e => Heap.get?_push_of_some _ e, turn_range _ lo (hi - lo).toNat, ?_, fun b hb => ?_, q⟩
  · have e1 : lo + ((0 : Nat) : Int) * 1 = lo := by simp
    have e2 : (((hi - lo).toNat : Nat) : Int) - ((0 : Nat) : Int) = Builtin.Range.rangeSize lo hi 1 := by rw [rangeSize_one]; split <;> omega
    show IsRangeIter _ _ (lo + ((0 : Nat) : Int) * 1) ((((hi - lo).toNat : Nat) : Int) - ((0 : Nat) : Int)) 1
    rw [e1, e2]
    exact Heap.get?_push_size _ rfl
  · have e : b = (s.heap.push { cls := .type "range", data := .fields #[.int lo t, .int hi u, .int 1 v] }).objs.size := by simpa using hb
    subst e
    exact I1.fpOk (Nat.le_refl _) (I1.hok.fresh (Nat.le_refl _))
def iRng1 (ta : TA) : TI := fun σ H R => ta σ H fun vs H1 => ∃ j : Int, vs = [.int j] ∧ -(2 ^ 62) ≤ j ∧ j < 2 ^ 62 ∧ R (Itr 0 j.toNat) H1
def iRng2 (ta : TA) : TI := fun σ H R => ta σ H fun vs H1 => ∃ i j : Int, vs = [.int i, .int j] ∧ (-(2 ^ 62) ≤ i ∧ i < 2 ^ 62 ∧ -(2 ^ 62) ≤ j ∧ j < 2 ^ 62) ∧ R (Itr i (j - i).toNat) H1
theorem pi_range1 {a : Expr} {ta : TA} {p pos : Pos} (hg : Gl X "range") (hm : X.mg "range" = none) (ha : PA X [a] ta) (hs : starEach [a] X.env = [(false, eval a X.env)] := by rfl) : PI X tg (.Call (.Name "range" p) [a] [] pos) (iRng1 ta) := by
  intro pins s σ H R I h
  refine Call_ (ld_blt I hg hm boot_range (PyProof.Rows.callWith_type1 (thn (ha pos pins s σ H _ I h) fun us s1 ⟨vs, H1, I1, r1, q1⟩ => ?_) hs rfl))
  obtain ⟨j, e, q1, q2, q⟩ := q1
  subst e
  cases r1 with
  | cons r rr =>
    cases rr
    obtain ⟨t, rfl⟩ := r
    exact call_range_1 (range_it I1 (by omega) (by omega) q1 q2 (by simpa using q))
theorem pi_range2 {a b : Expr} {ta : TA} {p pos : Pos} (hg : Gl X "range") (hm : X.mg "range" = none) (ha : PA X [a, b] ta) (hs : starEach [a, b] X.env = [(false, eval a X.env), (false, eval b X.env)] := by rfl) (hs2 : starEach [b] X.env = [(false, eval b X.env)] := by rfl) :
    PI X tg (.Call (.Name "range" p) [a, b] [] pos) (iRng2 ta) := by
  intro pins s σ H R I h
  refine Call_ (ld_blt I hg hm boot_range (PyProof.Rows.callWith_type1 (thn (ha pos pins s σ H _ I h) fun us s1 ⟨vs, H1, I1, r1, q1⟩ => ?_) (by rw [hs, hs2]) (by rw [hs2]; rfl)))
  obtain ⟨i, j, e, ⟨q1, q2, q3, q4⟩, q⟩ := q1
  subst e
  cases r1 with
  | cons r rr =>
    cases rr with
    | cons r' rr =>
      cases rr
      obtain ⟨t, rfl⟩ := r
      obtain ⟨t', rfl⟩ := r'
      exact call_range_2 (range_it I1 q1 q2 q3 q4 q)

/-! ### for -/
/-- W: the invariant by the turn and a measure; N: what the body is to reach -/
def tFor (wi : TI) (g : TG) (tb : TS) : TS := fun D σ H => wi σ H fun J H1 => ∃ W : Nat → Nat → St → Hp → Prop, (∃ m, W 0 m σ H1) ∧ ∀ i m σ H, W i m σ H →
  (J.stop i H ∧ D.nx σ H) ∨ (J.go i H ∧ ∃ N : St → Hp → Prop, (∀ σ' H', N σ' H' → ∃ m', m' < m ∧ W (i + 1) m' σ' H') ∧ ∀ x H', J.yld i H x H' → g x σ H' fun σ2 H2 => tb { D with nx := N, ct := N, bk := D.nx } σ2 H2)
/-- the records at fp as they stand -/
def pinsAt (fp : List Addr) (h : Heap) : List (Addr × Obj) := fp.filterMap fun b => (h.get? b).map fun o => (b, o)
theorem mem_pinsAt {fp : List Addr} {h : Heap} {b : Addr} {o : Obj} (hb : b ∈ fp) (e : h.get? b = some o) : (b, o) ∈ pinsAt fp h := List.mem_filterMap.mpr ⟨b, hb, by rw [e]; rfl⟩
theorem of_pinsAt {fp : List Addr} {h : Heap} {p : Addr × Obj} (hp : p ∈ pinsAt fp h) : p.1 ∈ fp ∧ h.get? p.1 = some p.2 := by
  obtain ⟨b, hb, e⟩ := List.mem_filterMap.mp hp
  cases q : h.get? b with
  | none => rw [q] at e; cases e
  | some o =>
    rw [q] at e
    have e' : (b, o) = p := Option.some.inj e
    subst e'
    exact ⟨hb, q⟩
theorem Inv.pinned {pins : List (Addr × Obj)} {σ : St} {H : Hp} {s : Shared} {fp : List Addr} (I : Inv X pins σ H s) (hf : ∀ b ∈ fp, FpOk X pins H b) (ho : ∀ b ∈ fp, ∃ o, s.heap.get? b = some o ∧ ∀ v, o.data ≠ .cell v) : Inv X (pins ++ pinsAt fp s.heap) σ H s :=
  I.pins_of fun p hp => (List.mem_append.mp hp).elim (fun z => I.pin p (List.mem_append_right _ z)) fun z => by
    obtain ⟨hb, e⟩ := of_pinsAt z
    obtain ⟨f0, f1, f2, _⟩ := hf p.1 hb
    obtain ⟨o, e', d⟩ := ho p.1 hb
    rw [e] at e'; cases e'
    exact ⟨e, f0, f1, f2, d⟩
theorem Inv.unpinned {pins pl : List (Addr × Obj)} {σ : St} {H : Hp} {s : Shared} (I : Inv X (pins ++ pl) σ H s) : Inv X pins σ H s := I.pins_of fun p hp => I.pin p (List.mem_append_right _ (List.mem_append_left _ hp))
theorem ps_for {iter : Expr} {body : List Stmt} {wi : TI} {g : TG} {tb : TS} {pos : Pos} (hp : PassesOwn (model X.prog X.w) X.A X.env X.xe) (hc : X.calm = true) (hi : PI X tg iter wi) (hg : PG X tg g) (hb : PSs X body tb)
    (hs : ∀ x, foldedSetIterable iter X.env x = pure x := by intro _; rfl) : PS X (.For tg iter body [] pos) (tFor wi g tb) := by
  intro pins s σ H D I h
  refine wpAny_For (thn (hi pins s σ H _ I h) fun v s1 h1 => thn h1 fun itv s2 h2 => ?_) hs
  obtain ⟨it, fp, tn, J, H2, e, I2, T, st2, f2, W, ⟨m0, w0⟩, turn⟩ := h2
  subst e
  -- what stays true of the iterator's objects through the loop
  have stat : ∀ {H' : Hp}, (∀ b ∈ fp, H' b = none) → ∀ b ∈ fp, FpOk X pins H' b := fun hn b hb => ⟨hn b hb, (f2 b hb).2⟩
  refine codeAny_forLoop_any (fun n s' => ∃ i σ' H', Inv X pins σ' H' s' ∧ tn i s'.heap ∧ (∀ b ∈ fp, H' b = none) ∧ W i n σ' H') ?_ m0 ⟨0, σ, H2, I2, st2, fun b hb => (f2 b hb).1, w0⟩
  rintro n s3 ⟨i, σ3, H3, I3, st3, fr3, w3⟩
  rcases turn i n σ3 H3 w3 with ⟨stop, qn⟩ | ⟨go, N, hN, step⟩
  · refine wpAny_passesOwn hp (thn (T.done X rfl rfl rfl hc i pins s3 σ3 H3 X.xe I3 (stat fr3) st3 stop) fun r s4 ⟨hr, I4⟩ => ?_)
    subst hr
    exact wpAny_execs_nil ⟨σ3, H3, I4, qn⟩
  · refine wpAny_passesOwn hp (thn (T.item X rfl rfl rfl hc i pins s3 σ3 H3 X.xe I3 (stat fr3) st3 go) fun r s4 ⟨u, hr, h4⟩ => ?_)
    subst hr
    refine wpAny_passesOwn hp (thn h4 fun _ s5 ⟨x, H5, I5, r5, y5, st5, fr5⟩ => ?_)
    have I5' := I5.pinned (stat fr5) (T.obj _ _ st5)
    refine wpAny_passesOwn hp (thn (hg _ s5 σ3 H5 x u _ I5' r5 (step x H5 y5)) fun _ s6 ⟨σ6, H6, I6, q6⟩ => ?_)
    refine wpAny_passesOwn hp (thn (hb _ s6 σ6 H6 _ I6 q6) fun f s7 q7 => ?_)
    have again : ∀ {σ7 : St} {H7 : Hp}, Inv X (pins ++ pinsAt fp s5.heap) σ7 H7 s7 → N σ7 H7 → ∃ m, m < n ∧ ∃ i σ' H', Inv X pins σ' H' s7 ∧ tn i s7.heap ∧ (∀ b ∈ fp, H' b = none) ∧ W i m σ' H' := fun {σ7 H7} I7 n7 => by
      obtain ⟨m', hm, w7⟩ := hN σ7 H7 n7
      refine ⟨m', hm, i + 1, σ7, H7, I7.unpinned, T.keep _ _ _ st5 fun b hb o e => (I7.pin (b, o) (List.mem_append_right _ (List.mem_append_right _ (mem_pinsAt hb e)))).1, fun b hb => ?_, w7⟩
      obtain ⟨o, e, d⟩ := T.obj _ _ st5 b hb
      exact (I7.pin (b, o) (List.mem_append_right _ (List.mem_append_right _ (mem_pinsAt hb e)))).2.1
    cases f with
    | next => obtain ⟨σ7, H7, I7, n7⟩ := q7; exact again I7 n7
    | cont => obtain ⟨σ7, H7, I7, n7⟩ := q7; exact again I7 n7
    | brk => obtain ⟨σ7, H7, I7, q7⟩ := q7; exact ⟨σ7, H7, I7.unpinned, q7⟩
    | ret v => obtain ⟨x7, σ7, H7, I7, r7, q7⟩ := q7; exact ⟨x7, σ7, H7, I7.unpinned, r7, q7⟩
end

/-! ### the forms one uses -/
/-- over a list that the body leaves as it is -/
theorem for_list {K : PySem.W.Frag} {a : Addr} {xs : List V} {g : TG} {tb : TS} {D : Ends} {σ : St} {H : Hp} (Pv : Nat → St → Hp → Prop) (h0 : Pv 0 σ H) (hl : ∀ i σ H, i ≤ xs.length → Pv i σ H → SqL K H a xs)
    (hs : ∀ i x σ H, xs[i]? = some x → Pv i σ H → g x σ H fun σ2 H2 => tb { D with nx := Pv (i + 1), ct := Pv (i + 1), bk := D.nx } σ2 H2) (hd : ∀ σ H, Pv xs.length σ H → D.nx σ H) :
    ∃ W : Nat → Nat → St → Hp → Prop, (∃ m, W 0 m σ H) ∧ ∀ i m σ H, W i m σ H →
      ((Itl K a).stop i H ∧ D.nx σ H) ∨ ((Itl K a).go i H ∧ ∃ N : St → Hp → Prop, (∀ σ' H', N σ' H' → ∃ m', m' < m ∧ W (i + 1) m' σ' H') ∧ ∀ x H', (Itl K a).yld i H x H' → g x σ H' fun σ2 H2 => tb { D with nx := N, ct := N, bk := D.nx } σ2 H2) := by
  refine ⟨fun i m σ H => m = xs.length - i ∧ i ≤ xs.length ∧ Pv i σ H, ⟨xs.length, by simp, Nat.zero_le _, h0⟩, ?_⟩
  rintro i m σ H ⟨rfl, hi, p⟩
  have q := hl i σ H hi p
  by_cases hlt : i < xs.length
  · refine .inr ⟨⟨xs, xs[i], q, by simp [hlt]⟩, Pv (i + 1), fun σ' H' p' => ⟨xs.length - (i + 1), by omega, rfl, hlt, p'⟩, fun x H' y => ?_⟩
    obtain ⟨e, y⟩ := y
    subst e
    exact hs i x σ _ (y xs q) p
  · have e : i = xs.length := by omega
    subst e
    exact .inl ⟨⟨xs, q, Nat.le_refl _⟩, hd σ H p⟩
theorem for_tup {K : PySem.W.Frag} {a : Addr} {xs : List V} {g : TG} {tb : TS} {D : Ends} {σ : St} {H : Hp} (Pv : Nat → St → Hp → Prop) (h0 : Pv 0 σ H) (hl : ∀ i σ H, i ≤ xs.length → Pv i σ H → SqT K H a xs)
    (hs : ∀ i x σ H, xs[i]? = some x → Pv i σ H → g x σ H fun σ2 H2 => tb { D with nx := Pv (i + 1), ct := Pv (i + 1), bk := D.nx } σ2 H2) (hd : ∀ σ H, Pv xs.length σ H → D.nx σ H) :
    ∃ W : Nat → Nat → St → Hp → Prop, (∃ m, W 0 m σ H) ∧ ∀ i m σ H, W i m σ H →
      ((Itt K a).stop i H ∧ D.nx σ H) ∨ ((Itt K a).go i H ∧ ∃ N : St → Hp → Prop, (∀ σ' H', N σ' H' → ∃ m', m' < m ∧ W (i + 1) m' σ' H') ∧ ∀ x H', (Itt K a).yld i H x H' → g x σ H' fun σ2 H2 => tb { D with nx := N, ct := N, bk := D.nx } σ2 H2) := by
  refine ⟨fun i m σ H => m = xs.length - i ∧ i ≤ xs.length ∧ Pv i σ H, ⟨xs.length, by simp, Nat.zero_le _, h0⟩, ?_⟩
  rintro i m σ H ⟨rfl, hi, p⟩
  have q := hl i σ H hi p
  by_cases hlt : i < xs.length
  · refine .inr ⟨⟨xs, xs[i], q, by simp [hlt]⟩, Pv (i + 1), fun σ' H' p' => ⟨xs.length - (i + 1), by omega, rfl, hlt, p'⟩, fun x H' y => ?_⟩
    obtain ⟨e, y⟩ := y
    subst e
    exact hs i x σ _ (y xs q) p
  · have e : i = xs.length := by omega
    subst e
    exact .inl ⟨⟨xs, q, Nat.le_refl _⟩, hd σ H p⟩
theorem for_range {lo : Int} {n : Nat} {g : TG} {tb : TS} {D : Ends} {σ : St} {H : Hp} (Pv : Nat → St → Hp → Prop) (h0 : Pv 0 σ H)
    (hs : ∀ i σ H, i < n → Pv i σ H → g (.int (lo + i)) σ H fun σ2 H2 => tb { D with nx := Pv (i + 1), ct := Pv (i + 1), bk := D.nx } σ2 H2) (hd : ∀ σ H, Pv n σ H → D.nx σ H) :
    ∃ W : Nat → Nat → St → Hp → Prop, (∃ m, W 0 m σ H) ∧ ∀ i m σ H, W i m σ H →
      ((Itr lo n).stop i H ∧ D.nx σ H) ∨ ((Itr lo n).go i H ∧ ∃ N : St → Hp → Prop, (∀ σ' H', N σ' H' → ∃ m', m' < m ∧ W (i + 1) m' σ' H') ∧ ∀ x H', (Itr lo n).yld i H x H' → g x σ H' fun σ2 H2 => tb { D with nx := N, ct := N, bk := D.nx } σ2 H2) := by
  refine ⟨fun i m σ H => m = n - i ∧ i ≤ n ∧ Pv i σ H, ⟨n, by simp, Nat.zero_le _, h0⟩, ?_⟩
  rintro i m σ H ⟨rfl, hi, p⟩
  by_cases hlt : i < n
  · refine .inr ⟨hlt, Pv (i + 1), fun σ' H' p' => ⟨n - (i + 1), by omega, rfl, hlt, p'⟩, fun x H' y => ?_⟩
    obtain ⟨e, y⟩ := y
    subst e y
    exact hs i σ _ hlt p
  · have e : i = n := by omega
    subst e
    exact .inl ⟨Nat.le_refl _, hd σ H p⟩
/-- while, by a word and a measure of the state -/
theorem while_by {c : TT} {tb : TS} {D : Ends} {σ : St} {H : Hp} (Pv : St → Hp → Prop) (μ : St → Hp → Nat) (h0 : Pv σ H)
    (hs : ∀ σ H, Pv σ H → c σ H fun b H1 => if b = true then tb { D with nx := fun σ' H' => Pv σ' H' ∧ μ σ' H' < μ σ H, ct := fun σ' H' => Pv σ' H' ∧ μ σ' H' < μ σ H, bk := D.nx } σ H1 else D.nx σ H1)
    (mono : ∀ σ H Q Q', (∀ b H1, Q b H1 → Q' b H1) → c σ H Q → c σ H Q') : tWhile c tb D σ H := by
  refine ⟨fun m σ H => m = μ σ H ∧ Pv σ H, ⟨_, rfl, h0⟩, ?_⟩
  rintro m σ H ⟨rfl, p⟩
  refine mono σ H _ _ (fun b H1 q => ?_) (hs σ H p)
  cases b with
  | true => exact ⟨_, fun σ' H' ⟨p', l⟩ => ⟨_, l, rfl, p'⟩, q⟩
  | false => exact q
end L2

namespace L2
open PySem PySem.Spec PyProof.Rows

abbrev R2 := V → V → Hp → VK → Prop
/-- a two-place operation on values: f is binaryOp op, inplaceOp op or compareOp op -/
def OpR (X : Cx) (f : Value → Value → Sem Value) (r : R2) : Prop :=
  ∀ (pins : List (Addr × Obj)) (s : Shared) (σ : St) (H : Hp) (x y : V) (v u : Value) (Q : VK), Inv X pins σ H s → RelV x v → RelV y u → r x y H Q →
    wpAny (model X.prog X.w) X.A (f v u) (EP X pins σ Q) X.xe s
/-- a one-place operation -/
def UnR (X : Cx) (f : Value → Sem Value) (r : V → Hp → VK → Prop) : Prop :=
  ∀ (pins : List (Addr × Obj)) (s : Shared) (σ : St) (H : Hp) (x : V) (v : Value) (Q : VK), Inv X pins σ H s → RelV x v → r x H Q →
    wpAny (model X.prog X.w) X.A (f v) (EP X pins σ Q) X.xe s
/-- a call of a value that is known (a builtin, a type) with values -/
def CallR (X : Cx) (f : Value) (r : List V → Hp → VK → Prop) : Prop :=
  ∀ (pins : List (Addr × Obj)) (s : Shared) (σ : St) (H : Hp) (xs : List V) (us : List Value) (Q : VK), Inv X pins σ H s → Vals xs us → r xs H Q →
    wpAny (model X.prog X.w) X.A (call f us) (EP X pins σ Q) X.xe s
/-- a value's truth -/
def TruR (X : Cx) (r : V → Hp → (Bool → Hp → Prop) → Prop) : Prop :=
  ∀ (pins : List (Addr × Obj)) (s : Shared) (σ : St) (H : Hp) (x : V) (v : Value) (Q : Bool → Hp → Prop), Inv X pins σ H s → RelV x v → r x H Q →
    wpAny (model X.prog X.w) X.A (truthy v) (TP X pins σ Q) X.xe s

def tOp (r : R2) (ta tb : TE) : TE := fun σ H Q => ta σ H fun x H1 => tb σ H1 fun y H2 => r x y H2 Q
def tUn (r : V → Hp → VK → Prop) (ta : TE) : TE := fun σ H Q => ta σ H fun x H1 => r x H1 Q
/-- ints in, under C, and a value out -/
def rI (C : Int → Int → Prop) (g : Int → Int → V) : R2 := fun x y H Q => ∃ i j, x = .int i ∧ y = .int j ∧ C i j ∧ Q (g i j) H
def rI0 (g : Int → Int → V) : R2 := fun x y H Q => ∃ i j, x = .int i ∧ y = .int j ∧ Q (g i j) H
def rU (g : Int → V) : V → Hp → VK → Prop := fun x H Q => ∃ i, x = .int i ∧ Q (g i) H

section
variable {X : Cx} {a b c : Expr} {ta tb tc : TE} {pos : Pos}

theorem binT (ha : PE X a ta) (hb : PE X b tb) {pins : List (Addr × Obj)} {s : Shared} {σ : St} {H : Hp} {R : V → V → Hp → Prop} (I : Inv X pins σ H s)
    (h : ta σ H fun x H1 => tb σ H1 fun y H2 => R x y H2) {Q : Value → Shared → Prop} {f : Value → Value → Sem Value}
    (hf : ∀ v u s2 x y H2, Inv X pins σ H2 s2 → RelV x v → RelV y u → R x y H2 → wpAny (model X.prog X.w) X.A (f v u) Q X.xe s2) :
    wpAny (model X.prog X.w) X.A (eval a X.env) (fun v s₁ => wpAny (model X.prog X.w) X.A (eval b X.env) (fun u s₂ => wpAny (model X.prog X.w) X.A (f v u) Q X.xe s₂) X.xe s₁) X.xe s := by
  refine thn (ha pins s σ H _ I h) fun v s1 ⟨x, H1, I1, r1, q1⟩ => ?_
  refine thn (hb pins s1 σ H1 _ I1 q1) fun u s2 ⟨y, H2, I2, r2, q2⟩ => ?_
  exact hf v u s2 x y H2 I2 r1 r2 q2

theorem pe_op {op : Operator} {r : R2} (ho : OpR X (binaryOp op) r) (ha : PE X a ta) (hb : PE X b tb) : PE X (.BinOp a op b pos) (tOp r ta tb) := by
  intro pins s σ H Q I h
  exact wpAny_BinOp (binT ha hb I h fun v u s2 x y H2 I2 rx ry q => ho pins s2 σ H2 x y v u Q I2 rx ry q)
theorem pe_un {op : UnaryOp} {r : V → Hp → VK → Prop} (ho : UnR X (unaryOp op) r) (ha : PE X a ta) : PE X (.UnaryOp op a pos) (tUn r ta) := by
  intro pins s σ H Q I h
  exact UnaryOp_ (thn (ha pins s σ H _ I h) fun v s1 ⟨x, H1, I1, r1, q1⟩ => ho pins s1 σ H1 x v Q I1 r1 q1)
/-- a op= e at a name: the name's slot i -/
theorem augR {op : Operator} {r : R2} (ho : OpR X (inplaceOp op) r) {pins : List (Addr × Obj)} {s : Shared} {σ : St} {H : Hp} {x y : V} {v u : Value} {Q : VK} (I : Inv X pins σ H s)
    (rx : RelV x v) (ry : RelV y u) (q : r x y H Q) : wpAny (model X.prog X.w) X.A (inplaceOp op v u) (EP X pins σ Q) X.xe s := ho pins s σ H x y v u Q I rx ry q

/-! ### ints -/
theorem opI {f : Value → Value → Sem Value} {C : Int → Int → Prop} {g : Int → Int → Int}
    (rule : ∀ (i j : Int) (t u : Tok) (s : Shared) (Q : Value → Shared → Prop) (E : Value → Shared → Prop), C i j → Q (.int (g i j) s.toks) { s with toks := s.toks + 1 } → wpAny (model X.prog X.w) X.A (f (.int i t) (.int j u)) Q E s) :
    OpR X f (rI C fun i j => .int (g i j)) := by
  intro pins s σ H x y v u Q I rx ry h
  obtain ⟨i, j, rfl, rfl, hc, q⟩ := h
  obtain ⟨t, rfl⟩ := rx
  obtain ⟨t', rfl⟩ := ry
  exact rule i j t t' s _ _ hc ⟨.int (g i j), H, I.tok _, ⟨_, rfl⟩, q⟩
theorem opI0 {f : Value → Value → Sem Value} {g : Int → Int → Int}
    (rule : ∀ (i j : Int) (t u : Tok) (s : Shared) (Q : Value → Shared → Prop) (E : Value → Shared → Prop), Q (.int (g i j) s.toks) { s with toks := s.toks + 1 } → wpAny (model X.prog X.w) X.A (f (.int i t) (.int j u)) Q E s) :
    OpR X f (rI0 fun i j => .int (g i j)) := by
  intro pins s σ H x y v u Q I rx ry h
  obtain ⟨i, j, rfl, rfl, q⟩ := h
  obtain ⟨t, rfl⟩ := rx
  obtain ⟨t', rfl⟩ := ry
  exact rule i j t t' s _ _ ⟨.int (g i j), H, I.tok _, ⟨_, rfl⟩, q⟩
theorem opB0 {f : Value → Value → Sem Value} {g : Int → Int → Bool}
    (rule : ∀ (i j : Int) (t u : Tok) (s : Shared) (Q : Value → Shared → Prop) (E : Value → Shared → Prop), Q (.bool (g i j)) s → wpAny (model X.prog X.w) X.A (f (.int i t) (.int j u)) Q E s) :
    OpR X f (rI0 fun i j => .bl (g i j)) := by
  intro pins s σ H x y v u Q I rx ry h
  obtain ⟨i, j, rfl, rfl, q⟩ := h
  obtain ⟨t, rfl⟩ := rx
  obtain ⟨t', rfl⟩ := ry
  exact rule i j t t' s _ _ ⟨.bl (g i j), H, I, rfl, q⟩

def CDiv (i j : Int) : Prop := 0 < j ∧ j < 1073741824
def CDivN (i j : Int) : Prop := j ≠ 0 ∧ j.natAbs < 1073741824
def CPow (i j : Int) : Prop := 0 ≤ j ∧ j ≤ 1000000 ∧ i.natAbs < 2 ^ 64
def CMul (i j : Int) : Prop := (-(2 ^ 64) < i ∧ i < 2 ^ 64) ∨ (-(2 ^ 64) < j ∧ j < 2 ^ 64)
theorem CMul.ok {i j : Int} (h : CMul i j) : IntMulOk i j := by
  rcases h with ⟨h1, h2⟩ | ⟨h1, h2⟩
  · exact .of_left (intBits_le_64 h1 h2)
  · exact .of_right (intBits_le_64 h1 h2)
theorem two_pow_nn (k : Nat) : (0 : Int) ≤ 2 ^ k := by
  rw [two_pow_cast]
  exact Int.natCast_nonneg _

theorem op_add : OpR X (binaryOp .Add) (rI0 fun i j => .int (i + j)) := opI0 fun _ _ _ _ _ _ _ q => add_int q
theorem op_sub : OpR X (binaryOp .Sub) (rI0 fun i j => .int (i - j)) := opI0 fun _ _ _ _ _ _ _ q => sub_int q
theorem op_mul : OpR X (binaryOp .Mult) (rI CMul fun i j => .int (i * j)) := opI fun _ _ _ _ _ _ _ hc q => mul_int q hc.ok
/-- // by a positive divisor -/
theorem op_fdiv : OpR X (binaryOp .FloorDiv) (rI CDiv fun i j => .int (i / j)) := opI fun i j _ _ _ _ _ hc q => by
  have h1 : (0 : Int) < j := hc.1
  have h2 : j < 1073741824 := hc.2
  exact floordiv_int (by omega) (by rw [Int.fdiv_eq_ediv_of_nonneg i (by omega)]; exact q) (.inl (PyProof.noPylong_small (by omega)))
theorem op_fdivN : OpR X (binaryOp .FloorDiv) (rI CDivN fun i j => .int (i.fdiv j)) := opI fun _ _ _ _ _ _ _ hc q => floordiv_int hc.1 q (.inl (PyProof.noPylong_small hc.2))
/-- % by a positive divisor of any size -/
theorem op_mod : OpR X (binaryOp .Mod) (rI (fun _ j => 0 < j) fun i j => .int (i % j)) := opI fun i j _ _ _ _ _ hc q => by
  have h1 : (0 : Int) < j := hc
  exact mod_int' (by omega) (by rw [Int.fmod_eq_emod_of_nonneg i (by omega)]; exact q)
theorem op_modN : OpR X (binaryOp .Mod) (rI (fun _ j => j ≠ 0) fun i j => .int (i.fmod j)) := opI fun _ _ _ _ _ _ _ hc q => mod_int' hc q
theorem op_pow : OpR X (binaryOp .Pow) (rI CPow fun i j => .int (i ^ j.toNat)) := opI fun _ _ _ _ _ _ _ hc q => pow_int_small hc.1 hc.2.1 hc.2.2 q
theorem op_shl : OpR X (binaryOp .LShift) (rI CPow fun i j => .int (i * 2 ^ j.toNat)) := opI fun _ _ _ _ _ _ _ hc q => lshift_int_small hc.1 hc.2.1 hc.2.2 q
theorem op_shr : OpR X (binaryOp .RShift) (rI (fun _ j => 0 ≤ j) fun i j => .int (i / 2 ^ j.toNat)) := opI fun i j _ _ _ _ _ hc q =>
  rshift_int hc (by rw [Int.fdiv_eq_ediv_of_nonneg i (two_pow_nn _)]; exact q)
theorem op_and : OpR X (binaryOp .BitAnd) (rI0 fun i j => .int (Builtin.bitAnd i j)) := opI0 fun _ _ _ _ _ _ _ q => and_int q
theorem op_or : OpR X (binaryOp .BitOr) (rI0 fun i j => .int (Builtin.bitOr i j)) := opI0 fun _ _ _ _ _ _ _ q => or_int q
theorem op_xor : OpR X (binaryOp .BitXor) (rI0 fun i j => .int (Builtin.bitXor i j)) := opI0 fun _ _ _ _ _ _ _ q => xor_int q

theorem iop_add : OpR X (inplaceOp .Add) (rI0 fun i j => .int (i + j)) := opI0 fun _ _ _ _ _ _ _ q => iadd_int q
theorem iop_sub : OpR X (inplaceOp .Sub) (rI0 fun i j => .int (i - j)) := opI0 fun _ _ _ _ _ _ _ q => isub_int q
theorem iop_mul : OpR X (inplaceOp .Mult) (rI CMul fun i j => .int (i * j)) := opI fun _ _ _ _ _ _ _ hc q => imul_int q hc.ok
theorem iop_fdiv : OpR X (inplaceOp .FloorDiv) (rI CDiv fun i j => .int (i / j)) := opI fun i j _ _ _ _ _ hc q => by
  have h1 : (0 : Int) < j := hc.1
  have h2 : j < 1073741824 := hc.2
  exact ifloordiv_int (by omega) (by rw [Int.fdiv_eq_ediv_of_nonneg i (by omega)]; exact q) (.inl (PyProof.noPylong_small (by omega)))
theorem iop_mod : OpR X (inplaceOp .Mod) (rI (fun _ j => 0 < j) fun i j => .int (i % j)) := opI fun i j _ _ _ _ _ hc q => by
  have h1 : (0 : Int) < j := hc
  exact imod_int (by omega) (by rw [Int.fmod_eq_emod_of_nonneg i (by omega)]; exact q)
theorem iop_shl : OpR X (inplaceOp .LShift) (rI CPow fun i j => .int (i * 2 ^ j.toNat)) := opI fun _ _ _ _ _ _ _ hc q => ilshift_int_small hc.1 hc.2.1 hc.2.2 q
theorem iop_shr : OpR X (inplaceOp .RShift) (rI (fun _ j => 0 ≤ j) fun i j => .int (i / 2 ^ j.toNat)) := opI fun i j _ _ _ _ _ hc q =>
  irshift_int hc (by rw [Int.fdiv_eq_ediv_of_nonneg i (two_pow_nn _)]; exact q)
theorem iop_and : OpR X (inplaceOp .BitAnd) (rI0 fun i j => .int (Builtin.bitAnd i j)) := opI0 fun _ _ _ _ _ _ _ q => iand_int q
theorem iop_or : OpR X (inplaceOp .BitOr) (rI0 fun i j => .int (Builtin.bitOr i j)) := opI0 fun _ _ _ _ _ _ _ q => ior_int q
theorem iop_xor : OpR X (inplaceOp .BitXor) (rI0 fun i j => .int (Builtin.bitXor i j)) := opI0 fun _ _ _ _ _ _ _ q => ixor_int q

theorem unI {f : Value → Sem Value} {g : Int → Int}
    (rule : ∀ (i : Int) (t : Tok) (s : Shared) (Q : Value → Shared → Prop) (E : Value → Shared → Prop), Q (.int (g i) s.toks) { s with toks := s.toks + 1 } → wpAny (model X.prog X.w) X.A (f (.int i t)) Q E s) :
    UnR X f (rU fun i => .int (g i)) := by
  intro pins s σ H x v Q I rx h
  obtain ⟨i, rfl, q⟩ := h
  obtain ⟨t, rfl⟩ := rx
  exact rule i t s _ _ ⟨.int (g i), H, I.tok _, ⟨_, rfl⟩, q⟩
theorem un_neg : UnR X (unaryOp .USub) (rU fun i => .int (-i)) := unI fun _ _ _ _ _ q => neg_int q
theorem un_inv : UnR X (unaryOp .Invert) (rU fun i => .int (Builtin.bitNot i)) := unI fun _ _ _ _ _ q => invert_int q

/-! ### bools among ints: n += (a < b) -/
theorem op_add_ib : OpR X (binaryOp .Add) (fun x y H Q => ∃ i k, x = .int i ∧ y = .bl k ∧ Q (.int (i + b2i k)) H) := by
  intro pins s σ H x y v u Q I rx ry h
  obtain ⟨i, k, rfl, rfl, q⟩ := h
  obtain ⟨t, rfl⟩ := rx
  cases ry
  exact add_int_bool ⟨.int (i + b2i k), H, I.tok _, ⟨_, rfl⟩, q⟩
end

/-! ### comparisons -/
/-- the scalars that == tells apart as data does -/
def scal : V → V → Bool
  | .non, .non => true | .non, .int _ => true | .int _, .non => true | .non, .bl _ => true | .bl _, .non => true | .non, .str _ => true | .str _, .non => true
  | .int _, .int _ => true | .bl _, .bl _ => true | .str _, .str _ => true | .byt _, .byt _ => true
  | .int _, .str _ => true | .str _, .int _ => true | .bl _, .str _ => true | .str _, .bl _ => true
  | _, _ => false
def rEq : R2 := fun x y H Q => scal x y = true ∧ Q (.bl (decide (x = y))) H
def rNe : R2 := fun x y H Q => scal x y = true ∧ Q (.bl (!decide (x = y))) H

theorem dec_int {i j : Int} : decide (V.int i = V.int j) = (i == j) := by
  rw [Bool.eq_iff_iff]
  simp
theorem dec_bl {i j : Bool} : decide (V.bl i = V.bl j) = (i == j) := by
  rw [Bool.eq_iff_iff]
  simp
theorem dec_str {i j : Str} : decide (V.str i = V.str j) = (i == j) := by
  rw [Bool.eq_iff_iff]
  simp
theorem dec_byt {i j : Array UInt8} : decide (V.byt i = V.byt j) = (i.toList == j.toList) := by
  rw [Bool.eq_iff_iff]
  cases i
  cases j
  simp

section
variable {X : Cx} {a b c : Expr} {ta tb tc : TE} {pos : Pos}
theorem fin_bl {pins : List (Addr × Obj)} {σ : St} {H : Hp} {s : Shared} {Q : VK} {k k' : Bool} (I : Inv X pins σ H s) (q : Q (.bl k) H) (e : k = k') : EP X pins σ Q (.bool k') s := by
  subst e
  exact ⟨.bl k, H, I, rfl, q⟩
theorem op_eq : OpR X (compareOp .Eq) rEq := by
  intro pins s σ H x y v u Q I rx ry h
  obtain ⟨hs, q⟩ := h
  cases x with
  | non =>
    cases rx
    cases y with
    | non => cases ry; exact PySem.EqNone.eq_none_none (fin_bl I q (by simp))
    | bl j => cases ry; exact PySem.EqNone.eq_none_bool (fin_bl I q (by simp))
    | int j => obtain ⟨t', rfl⟩ := ry; exact PySem.EqNone.eq_none_int (fin_bl I q (by simp))
    | str j => obtain ⟨t', rfl⟩ := ry; exact PySem.EqNone.eq_none_str (fin_bl I q (by simp))
    | _ => exact absurd (show false = true from hs) Bool.false_ne_true
  | bl i =>
    cases rx
    cases y with
    | non => cases ry; exact PySem.EqNone.eq_bool_none (fin_bl I q (by simp))
    | bl j => cases ry; exact eq_bool (fin_bl I q dec_bl)
    | str j => obtain ⟨t', rfl⟩ := ry; exact PySem.EqMixed.eq_bool_str (fin_bl I q (by simp))
    | _ => exact absurd (show false = true from hs) Bool.false_ne_true
  | int i =>
    obtain ⟨t, rfl⟩ := rx
    cases y with
    | non => cases ry; exact PySem.EqNone.eq_int_none (fin_bl I q (by simp))
    | int j => obtain ⟨t', rfl⟩ := ry; exact eq_int (fin_bl I q dec_int)
    | str j => obtain ⟨t', rfl⟩ := ry; exact PySem.EqMixed.eq_int_str (fin_bl I q (by simp))
    | _ => exact absurd (show false = true from hs) Bool.false_ne_true
  | str i =>
    obtain ⟨t, rfl⟩ := rx
    cases y with
    | non => cases ry; exact PySem.EqNone.eq_str_none (fin_bl I q (by simp))
    | bl j => cases ry; exact PySem.EqMixed.eq_str_bool (fin_bl I q (by simp))
    | int j => obtain ⟨t', rfl⟩ := ry; exact PySem.EqMixed.eq_str_int (fin_bl I q (by simp))
    | str j => obtain ⟨t', rfl⟩ := ry; exact eq_str (fin_bl I q dec_str)
    | _ => exact absurd (show false = true from hs) Bool.false_ne_true
  | byt i =>
    obtain ⟨t, rfl⟩ := rx
    cases y with
    | byt j => obtain ⟨t', rfl⟩ := ry; exact PySem.W.eq_bytes (fin_bl I q dec_byt)
    | _ => exact absurd (show false = true from hs) Bool.false_ne_true
  | _ => cases y <;> exact absurd (show false = true from hs) Bool.false_ne_true
theorem op_ne : OpR X (compareOp .NotEq) rNe := by
  intro pins s σ H x y v u Q I rx ry h
  obtain ⟨hs, q⟩ := h
  cases x with
  | non =>
    cases rx
    cases y with
    | non => cases ry; exact PySem.EqNone.ne_none_none (fin_bl I q (by simp))
    | bl j => cases ry; exact PySem.EqNone.ne_none_bool (fin_bl I q (by simp))
    | int j => obtain ⟨t', rfl⟩ := ry; exact PySem.EqNone.ne_none_int (fin_bl I q (by simp))
    | str j => obtain ⟨t', rfl⟩ := ry; exact PySem.EqNone.ne_none_str (fin_bl I q (by simp))
    | _ => exact absurd (show false = true from hs) Bool.false_ne_true
  | bl i =>
    cases rx
    cases y with
    | non => cases ry; exact PySem.EqNone.ne_bool_none (fin_bl I q (by simp))
    | bl j => cases ry; exact ne_bool (fin_bl I q (congrArg not dec_bl))
    | str j => obtain ⟨t', rfl⟩ := ry; exact PySem.EqMixed.ne_bool_str (fin_bl I q (by simp))
    | _ => exact absurd (show false = true from hs) Bool.false_ne_true
  | int i =>
    obtain ⟨t, rfl⟩ := rx
    cases y with
    | non => cases ry; exact PySem.EqNone.ne_int_none (fin_bl I q (by simp))
    | int j => obtain ⟨t', rfl⟩ := ry; exact ne_int (fin_bl I q (congrArg not dec_int))
    | str j => obtain ⟨t', rfl⟩ := ry; exact PySem.EqMixed.ne_int_str (fin_bl I q (by simp))
    | _ => exact absurd (show false = true from hs) Bool.false_ne_true
  | str i =>
    obtain ⟨t, rfl⟩ := rx
    cases y with
    | non => cases ry; exact PySem.EqNone.ne_str_none (fin_bl I q (by simp))
    | bl j => cases ry; exact PySem.EqMixed.ne_str_bool (fin_bl I q (by simp))
    | int j => obtain ⟨t', rfl⟩ := ry; exact PySem.EqMixed.ne_str_int (fin_bl I q (by simp))
    | str j => obtain ⟨t', rfl⟩ := ry; exact ne_str (fin_bl I q (congrArg not dec_str))
    | _ => exact absurd (show false = true from hs) Bool.false_ne_true
  | byt i =>
    obtain ⟨t, rfl⟩ := rx
    cases y with
    | byt j => obtain ⟨t', rfl⟩ := ry; exact PySem.W.ne_bytes (fin_bl I q (congrArg not dec_byt))
    | _ => exact absurd (show false = true from hs) Bool.false_ne_true
  | _ => cases y <;> exact absurd (show false = true from hs) Bool.false_ne_true

theorem op_lt : OpR X (compareOp .Lt) (rI0 fun i j => .bl (decide (i < j))) := opB0 fun _ _ _ _ _ _ _ q => lt_int q
theorem op_le : OpR X (compareOp .LtE) (rI0 fun i j => .bl (decide (i ≤ j))) := opB0 fun _ _ _ _ _ _ _ q => le_int q
theorem op_gt : OpR X (compareOp .Gt) (rI0 fun i j => .bl (decide (j < i))) := opB0 fun _ _ _ _ _ _ _ q => gt_int q
theorem op_ge : OpR X (compareOp .GtE) (rI0 fun i j => .bl (decide (j ≤ i))) := opB0 fun _ _ _ _ _ _ _ q => ge_int q
theorem op_lt_str : OpR X (compareOp .Lt) (fun x y H Q => ∃ i j, x = .str i ∧ y = .str j ∧ Q (.bl (decide (i.cps.toList < j.cps.toList))) H) := by
  intro pins s σ H x y v u Q I rx ry h
  obtain ⟨i, j, rfl, rfl, q⟩ := h
  obtain ⟨t, rfl⟩ := rx
  obtain ⟨t', rfl⟩ := ry
  exact lt_str (fin_bl I q rfl)
/-- the one string within the other -/
theorem op_in_str : OpR X (compareOp .In) (fun x y H Q => ∃ i j, x = .str i ∧ y = .str j ∧ Q (.bl (!(Builtin.Str.occurrences j i 0 j.length 1).isEmpty)) H) := by
  intro pins s σ H x y v u Q I rx ry h
  obtain ⟨i, j, rfl, rfl, q⟩ := h
  obtain ⟨t, rfl⟩ := rx
  obtain ⟨t', rfl⟩ := ry
  exact in_str (fin_bl I q rfl)

/-- is None, is not None: the right side a value none -/
theorem op_isN : OpR X (compareOp .Is) (fun x y H Q => y = .non ∧ Q (.bl (decide (x = .non))) H) := by
  intro pins s σ H x y v u Q I rx ry h
  obtain ⟨rfl, q⟩ := h
  cases ry
  refine is_none_gen (fin_bl I q ?_)
  cases x <;> first
    | (cases rx; rfl)
    | (obtain ⟨t, rfl⟩ := rx; rfl)
theorem op_notN : OpR X (compareOp .IsNot) (fun x y H Q => y = .non ∧ Q (.bl (!decide (x = .non))) H) := by
  intro pins s σ H x y v u Q I rx ry h
  obtain ⟨rfl, q⟩ := h
  cases ry
  refine isnot_none_gen (fin_bl I q ?_)
  cases x <;> first
    | (cases rx; rfl)
    | (obtain ⟨t, rfl⟩ := rx; rfl)

theorem op_notin_str : OpR X (compareOp .NotIn) (fun x y H Q => ∃ i j, x = .str i ∧ y = .str j ∧ Q (.bl (!(!(Builtin.Str.occurrences j i 0 j.length 1).isEmpty))) H) := by
  intro pins s σ H x y v u Q I rx ry h
  obtain ⟨i, j, rfl, rfl, q⟩ := h
  obtain ⟨t, rfl⟩ := rx
  obtain ⟨t', rfl⟩ := ry
  exact notIn_str (fin_bl I q rfl)
/-- is, is not of two objects that are tracked lists or instances -/
def isObj : HO → Bool
  | .lst _ => true
  | .ins _ _ _ => true
  | _ => false
theorem obj_there {pins : List (Addr × Obj)} {s : Shared} {σ : St} {H : Hp} {a : Addr} {o : HO} (I : Inv X pins σ H s) (h : H a = some o) (p : isObj o = true) : ∃ ob, s.heap.get? a = some ob ∧ ob.cls ≠ .type "tuple" := by
  cases o with
  | lst xs =>
    obtain ⟨_, its, n, _, e⟩ : xs.length ≤ sizeLine ∧ ∃ (its : List Value) (n : Nat), Vals xs its ∧ s.heap.get? a = some { cls := .type "list", data := .seq its.toArray n } := I.hok a _ h
    exact ⟨_, e, (by show Value.type "list" ≠ .type "tuple"; decide +kernel)⟩
  | ins C dx fs =>
    have x := I.hok a _ h
    obtain ⟨_, _, _, e, _⟩ := x
    exact ⟨_, e, (by show Value.ref C ≠ .type "tuple"; exact fun z => by cases z)⟩
  | _ => exact absurd (show false = true from p) Bool.false_ne_true
theorem op_is_ref : OpR X (compareOp .Is) (fun x y H Q => ∃ a b oa ob, x = .ref a ∧ y = .ref b ∧ H a = some oa ∧ isObj oa = true ∧ H b = some ob ∧ isObj ob = true ∧ Q (.bl (decide (a = b))) H) := by
  intro pins s σ H x y v u Q I rx ry h
  obtain ⟨a, b, oa, ob, rfl, rfl, ha, pa, hb, pb, q⟩ := h
  cases rx
  cases ry
  obtain ⟨o1, e1, n1⟩ := obj_there I ha pa
  obtain ⟨o2, e2, _⟩ := obj_there I hb pb
  by_cases z : a = b
  · subst z
    exact wpAny_is_ref_self (fin_bl I q (by simp))
  · exact wpAny_is_ref_other z e1 e2 n1 (fin_bl I q (by simp [z]))
theorem op_isnot_ref : OpR X (compareOp .IsNot) (fun x y H Q => ∃ a b oa ob, x = .ref a ∧ y = .ref b ∧ H a = some oa ∧ isObj oa = true ∧ H b = some ob ∧ isObj ob = true ∧ Q (.bl (!decide (a = b))) H) := by
  intro pins s σ H x y v u Q I rx ry h
  obtain ⟨a, b, oa, ob, rfl, rfl, ha, pa, hb, pb, q⟩ := h
  cases rx
  cases ry
  obtain ⟨o1, e1, n1⟩ := obj_there I ha pa
  obtain ⟨o2, e2, _⟩ := obj_there I hb pb
  by_cases z : a = b
  · subst z
    exact wpAny_isNot_ref_self (fin_bl I q (by simp))
  · exact wpAny_isNot_ref_other z e1 e2 n1 (fin_bl I q (by simp [z]))

/-- two rules for one operation: by cases -/
theorem OpR.or {f : Value → Value → Sem Value} {r r' : R2} (h : OpR X f r) (h' : OpR X f r') : OpR X f (fun x y H Q => r x y H Q ∨ r' x y H Q) := by
  intro pins s σ H x y v u Q I rx ry q
  rcases q with q | q
  · exact h pins s σ H x y v u Q I rx ry q
  · exact h' pins s σ H x y v u Q I rx ry q

theorem nomark (b : Expr) {op : CmpOp} (h : op ≠ .In := by decide) (h2 : op ≠ .NotIn := by decide) : behindInMarks op b = false := by
  have e1 : (op == CmpOp.In) = false := by cases op <;> first | rfl | exact absurd rfl h
  have e2 : (op == CmpOp.NotIn) = false := by cases op <;> first | rfl | exact absurd rfl h2
  cases b <;> simp [behindInMarks, e1, e2]
/-- a comparison as a value; hm: nomark b, or (for in, not in) by with_unfolding_all rfl -/
theorem pe_cmpR {op : CmpOp} {r : R2} (ho : OpR X (compareOp op) r) (ha : PE X a ta) (hb : PE X b tb) (hm : behindInMarks op b = false) : PE X (.Compare a [op] [b] pos) (tOp r ta tb) := by
  intro pins s σ H Q I h
  exact wpAny_Compare1 (binT ha hb I h fun v u s2 x y H2 I2 rx ry q => ho pins s2 σ H2 x y v u Q I2 rx ry q) hm
/-- a reading of a value as a test -/
def tTest (t : TE) : TT := fun σ H Q => t σ H fun x H' => ∃ k, x = .bl k ∧ Q k H'
theorem pt_cmpR {op : CmpOp} {r : R2} (ho : OpR X (compareOp op) r) (ha : PE X a ta) (hb : PE X b tb) (hm : behindInMarks op b = false) : PT X (.Compare a [op] [b] pos) (tTest (tOp r ta tb)) := by
  intro pins s σ H Q I h
  refine wpAny_isTrue_Compare1 (thn (ha pins s σ H _ I h) fun v s1 ⟨x, H1, I1, r1, q1⟩ => thn (hb pins s1 σ H1 _ I1 q1) fun u s2 ⟨y, H2, I2, r2, q2⟩ =>
    thn (ho pins s2 σ H2 x y v u _ I2 r1 r2 q2) fun c s3 ⟨z, H3, I3, r3, k, e, q3⟩ => ?_) hm
  subst e
  cases r3
  exact wpAny_truthy_bool ⟨H3, I3, q3⟩
/-- a op1 b op2 c -/
def tChain (r r' : R2) (ta tb tc : TE) : TE := fun σ H Q => ta σ H fun x H1 => tb σ H1 fun y H2 => r x y H2 fun z H3 => ∃ k, z = .bl k ∧
  (if k = true then tc σ H3 fun w' H4 => r' y w' H4 Q else Q (.bl false) H3)
theorem pe_chain {op op' : CmpOp} {r r' : R2} (ho : OpR X (compareOp op) r) (ho' : OpR X (compareOp op') r') (ha : PE X a ta) (hb : PE X b tb) (hc : PE X c tc)
    (hm : lastMarks [op, op'] [b, c] = false := by with_unfolding_all rfl) : PE X (.Compare a [op, op'] [b, c] pos) (tChain r r' ta tb tc) := by
  intro pins s σ H Q I h
  refine Compare_chain (thn (ha pins s σ H _ I h) fun v s1 ⟨x, H1, I1, r1, q1⟩ => chain_link (thn (hb pins s1 σ H1 _ I1 q1) fun u s2 ⟨y, H2, I2, r2, q2⟩ =>
    thn (ho pins s2 σ H2 x y v u _ I2 r1 r2 q2) fun d s3 ⟨z, H3, I3, r3, k, e, q3⟩ => ?_)) hm
  subst e
  cases r3
  refine wpAny_truthy_bool ?_
  cases k with
  | false => exact ite_ff ⟨.bl false, H3, I3, rfl, q3⟩
  | true => exact ite_tt (chain_last (thn (hc pins s3 σ H3 _ I3 q3) fun w' s4 ⟨z', H4, I4, r4, q4⟩ => ho' pins s4 σ H4 y z' u w' Q I4 r2 r4 q4))
theorem pt_chain {op op' : CmpOp} {r r' : R2} (ho : OpR X (compareOp op) r) (ho' : OpR X (compareOp op') r') (ha : PE X a ta) (hb : PE X b tb) (hc : PE X c tc)
    (hm : lastMarks [op, op'] [b, c] = false := by with_unfolding_all rfl) : PT X (.Compare a [op, op'] [b, c] pos) (tTest (tChain r r' ta tb tc)) := by
  intro pins s σ H Q I h
  refine isTrue_chain (thn (ha pins s σ H _ I h) fun v s1 ⟨x, H1, I1, r1, q1⟩ => test_link (thn (hb pins s1 σ H1 _ I1 q1) fun u s2 ⟨y, H2, I2, r2, q2⟩ =>
    thn (ho pins s2 σ H2 x y v u _ I2 r1 r2 q2) fun d s3 ⟨z, H3, I3, r3, k, e, q3⟩ => ?_)) hm
  subst e
  cases r3
  refine wpAny_truthy_bool ?_
  cases k with
  | false =>
    obtain ⟨k', e', q'⟩ := q3
    cases e'
    exact ite_ff ⟨H3, I3, q'⟩
  | true =>
    refine ite_tt (test_last (thn (hc pins s3 σ H3 _ I3 q3) fun w' s4 ⟨z', H4, I4, r4, q4⟩ => thn (ho' pins s4 σ H4 y z' u w' _ I4 r2 r4 q4) fun d' s5 ⟨z2, H5, I5, r5, k2, e2, q5⟩ => ?_))
    subst e2
    cases r5
    exact wpAny_truthy_bool ⟨H5, I5, q5⟩

/-! ### truth -/
/-- a value's truth by the abstract heap -/
def TruV (K : PySem.W.Frag) (x : V) (H : Hp) (k : Bool) : Prop :=
  match x with
  | .non => k = false
  | .bl b => k = b
  | .int i => k = (i != 0)
  | .str y => y.length ≤ sizeLine ∧ k = ((y.length : Int) != 0)
  | .byt y => y.size ≤ sizeLine ∧ k = ((y.size : Int) != 0)
  | .ref p => (∃ xs, SqL K H p xs ∧ k = !xs.isEmpty) ∨ (∃ xs, SqT K H p xs ∧ k = !xs.isEmpty) ∨ ∃ kvs, H p = some (.dK kvs) ∧ k = !kvs.isEmpty
  | _ => False
theorem isEmpty_kv {κ : Type} {kvs : List (κ × V)} {vs : List (κ × Value)} (r : KV kvs vs) : (!vs.isEmpty) = !kvs.isEmpty := by
  cases r <;> rfl
theorem isEmpty_of {xs : List V} {its : List Value} (r : Vals xs its) : (!its.toArray.isEmpty) = !xs.isEmpty := by
  cases r <;> simp
theorem line63 : (sizeLine : Nat) < 2 ^ 63 := by rw [sizeLine_eq]; decide
theorem tru_ok : TruR X (fun x H Q => ∃ k, TruV X.K x H k ∧ Q k H) := by
  intro pins s σ H x v Q I rx h
  obtain ⟨k, e, q⟩ := h
  have hl := line63
  have hs : sizeLine = 16777216 := sizeLine_eq
  cases x with
  | non =>
    cases rx
    have e' : k = false := e
    subst e'
    exact truthy_none ⟨H, I, q⟩
  | bl b =>
    cases rx
    have e' : k = b := e
    subst e'
    exact wpAny_truthy_bool ⟨H, I, q⟩
  | int i =>
    obtain ⟨t, rfl⟩ := rx
    have e' : k = (i != 0) := e
    subst e'
    exact PySem.P.truthy_int ⟨H, I, q⟩
  | str y =>
    obtain ⟨t, rfl⟩ := rx
    obtain ⟨hy, e'⟩ : y.length ≤ sizeLine ∧ k = ((y.length : Int) != 0) := e
    subst e'
    exact PySem.P.truthy_str (by omega) ⟨H, I.tok _, q⟩
  | byt y =>
    obtain ⟨t, rfl⟩ := rx
    obtain ⟨hy, e'⟩ : y.size ≤ sizeLine ∧ k = ((y.size : Int) != 0) := e
    subst e'
    exact PySem.W.truthy_bytes (by omega) ⟨H, I.tok _, q⟩
  | ref p =>
    cases rx
    have e' : (∃ xs, SqL X.K H p xs ∧ k = !xs.isEmpty) ∨ (∃ xs, SqT X.K H p xs ∧ k = !xs.isEmpty) ∨ ∃ kvs, H p = some (.dK kvs) ∧ k = !kvs.isEmpty := e
    rcases e' with ⟨xs, hx, e'⟩ | ⟨xs, hx, e'⟩ | ⟨kvs, hx, e'⟩
    · subst e'
      obtain ⟨its, r, pl, hz⟩ := I.list hx
      have hlen := r.length
      exact wpAny_truthy_list pl.isList (by simp only [List.size_toArray]; omega) ⟨H, I.tok _, by rw [isEmpty_of r]; exact q⟩
    · subst e'
      obtain ⟨its, r, pl, hz⟩ := I.tuple hx
      have hlen := r.length
      exact truthy_tuple pl (by simp only [List.size_toArray]; omega) ⟨H, I.tok _, by rw [isEmpty_of r]; exact q⟩
    · subst e'
      obtain ⟨hz, hS, vs, r, m⟩ : kvs.length ≤ sizeLine ∧ (p == sysModules) = false ∧ ∃ vs, KV kvs vs ∧ s.heap.DictOf (mixKind X.prog X.w) p vs := I.hok p _ hx
      have hlen : kvs.length = vs.length := Paired.length r
      exact wpAny_truthy_dict hS m (by omega) ⟨H, I.tok _, by rw [isEmpty_kv r]; exact q⟩
  | _ => exact (show False from e).elim
/-- any expression whose test is its value's truth (a name, a call, a subscript, a field ..: he by fun _ => rfl) -/
theorem pt_truth (ha : PE X a ta) (he : ∀ whole, isTrue a X.env whole = (do let v ← whole; standAt a.pos; holding [v] (truthy v))) :
    PT X a (fun σ H Q => ta σ H fun x H' => ∃ k, TruV X.K x H' k ∧ Q k H') := by
  intro pins s σ H Q I h
  exact isTrue_plain (thn (ha pins s σ H _ I h) fun v s1 ⟨x, H1, I1, r1, q1⟩ => tru_ok pins s1 σ H1 x v Q I1 r1 q1) (he _)

/-! ### strs and bytes -/
theorem pe_byt {x : List UInt8} {k : Nat} : PE X (.Constant (.bytes x) k pos) (fun _ H Q => Q (.byt x.toArray) H) := fun _ _ _ H _ I h => PySem.W.Constant_bytes ⟨.byt x.toArray, H, I.tok _, ⟨_, rfl⟩, h⟩
theorem op_add_str : OpR X (binaryOp .Add) (fun x y H Q => ∃ i j, x = .str i ∧ y = .str j ∧ i.length + j.length ≤ sizeLine ∧ Q (.str (i ++ j)) H) := by
  intro pins s σ H x y v u Q I rx ry h
  obtain ⟨i, j, rfl, rfl, hz, q⟩ := h
  obtain ⟨t, rfl⟩ := rx
  obtain ⟨t', rfl⟩ := ry
  exact add_str (fun t' tk => ⟨.str (i ++ j), H, I.tok _, ⟨_, rfl⟩, q⟩) hz
theorem iop_add_str : OpR X (inplaceOp .Add) (fun x y H Q => ∃ i j, x = .str i ∧ y = .str j ∧ i.length + j.length ≤ sizeLine ∧ Q (.str (i ++ j)) H) := by
  intro pins s σ H x y v u Q I rx ry h
  obtain ⟨i, j, rfl, rfl, hz, q⟩ := h
  obtain ⟨t, rfl⟩ := rx
  obtain ⟨t', rfl⟩ := ry
  exact iadd_str (fun t' tk => ⟨.str (i ++ j), H, I.tok _, ⟨_, rfl⟩, q⟩) hz
theorem op_add_byt : OpR X (binaryOp .Add) (fun x y H Q => ∃ i j, x = .byt i ∧ y = .byt j ∧ i.size + j.size ≤ 16777216 ∧ Q (.byt (i ++ j)) H) := by
  intro pins s σ H x y v u Q I rx ry h
  obtain ⟨i, j, rfl, rfl, hz, q⟩ := h
  obtain ⟨t, rfl⟩ := rx
  obtain ⟨t', rfl⟩ := ry
  exact PySem.W.KBy.add_bytes hz (fun t' tk => ⟨.byt (i ++ j), H, I.tok _, ⟨_, rfl⟩, q⟩)

def PlainIxT (b : Expr) : Prop := ∀ o i, subscripted b false o i = operate [o, i] (getItem o i)
/-- s[i], 0 ≤ i < len -/
theorem pe_item_str (ha : PE X a ta) (hb : PE X b tb) (hs : PlainIxT b) :
    PE X (.Subscript a b pos) (tOp (fun x y H Q => ∃ z i c, x = .str z ∧ y = .int i ∧ 0 ≤ i ∧ i < 2 ^ 63 ∧ i < z.length ∧ z.cps[i.toNat]? = some c ∧ Q (.str ⟨#[c]⟩) H) ta tb) := by
  intro pins s σ H Q I h
  refine Subscript_ (binT ha hb I h fun v u s2 x y H2 I2 rx ry q => ?_)
  obtain ⟨z, i, c, rfl, rfl, h0, h63, h1, hc, q⟩ := q
  obtain ⟨t, rfl⟩ := rx
  obtain ⟨t', rfl⟩ := ry
  have e : seqIndex? i z.length = some i.toNat := PySem.StrLaws.seqIndex_nonneg h0 h1
  exact tail_any (typeIs_str s2 z t) slot_str_getitem.lookup (getItem_str (c := c) (by
    have e1 : decide (i < -(2 ^ 63 : Int)) = false := decide_eq_false (by omega)
    have e2 : decide (i ≥ 2 ^ 63) = false := decide_eq_false (by omega)
    rw [e1, e2] <;> rfl) (by rw [e]; exact hc) ⟨.str ⟨#[c]⟩, H2, I2.tok _, ⟨_, rfl⟩, q⟩) (hs _ _)
/-- b[i], 0 ≤ i < len -/
theorem pe_item_byt (ha : PE X a ta) (hb : PE X b tb) (hs : PlainIxT b) :
    PE X (.Subscript a b pos) (tOp (fun x y H Q => ∃ (z : List UInt8) (i : Int), x = .byt z.toArray ∧ y = .int i ∧ z.length ≤ sizeLine ∧ 0 ≤ i ∧ i < z.length ∧ Q (.int ((z.getD i.toNat 0).toNat : Nat)) H) ta tb) := by
  intro pins s σ H Q I h
  refine Subscript_ (binT ha hb I h fun v u s2 x y H2 I2 rx ry q => ?_)
  obtain ⟨z, i, rfl, rfl, hz, h0, h1, q⟩ := q
  obtain ⟨t, rfl⟩ := rx
  obtain ⟨t', rfl⟩ := ry
  have hl : sizeLine = 16777216 := sizeLine_eq
  exact tail_any (PySem.W.typeIs_bytes s2 z.toArray t) PySem.W.FB.slot_bytes_getitem.lookup (PySem.W.getItem_bytes (by omega) h0 h1 ⟨.int ((z.getD i.toNat 0).toNat : Nat), H2, I2.tok _, ⟨_, rfl⟩, q⟩) (hs _ _)

/-! ### scalar builtins, by CallR -/
theorem vals1 {x : V} {us : List Value} (r : Vals [x] us) : ∃ u, us = [u] ∧ RelV x u := by
  cases r with
  | cons r1 r2 => cases r2; exact ⟨_, rfl, r1⟩
theorem vals2 {x y : V} {us : List Value} (r : Vals [x, y] us) : ∃ u w', us = [u, w'] ∧ RelV x u ∧ RelV y w' := by
  cases r with
  | cons r1 r2 =>
    cases r2 with
    | cons r3 r4 => cases r4; exact ⟨_, _, rfl, r1, r3⟩
theorem call_abs : CallR X (.builtin "abs") (fun xs H Q => ∃ i, xs = [.int i] ∧ Q (.int (if i < 0 then -i else i)) H) := by
  intro pins s σ H xs us Q I r h
  obtain ⟨i, rfl, q⟩ := h
  obtain ⟨u, rfl, t, rfl⟩ := vals1 r
  exact call_abs_int fun u tk => ⟨.int (if i < 0 then -i else i), H, I.tok _, ⟨_, rfl⟩, q⟩
theorem call_max2 (hc : X.calm = true) : CallR X (.builtin "max") (fun xs H Q => ∃ i j, xs = [.int i, .int j] ∧ Q (.int (if j > i then j else i)) H) := by
  intro pins s σ H xs us Q I r h
  obtain ⟨i, j, rfl, q⟩ := h
  obtain ⟨u, w', rfl, ⟨t, rfl⟩, ⟨t', rfl⟩⟩ := vals2 r
  refine max_two_ints (I.ok.hd hc) fun h' tk k => ⟨_, H, I.kept k, ?_, q⟩
  by_cases hj : j > i
  · rw [if_pos hj, if_pos hj]; exact ⟨_, rfl⟩
  · rw [if_neg hj, if_neg hj]; exact ⟨_, rfl⟩
theorem call_min2 (hc : X.calm = true) : CallR X (.builtin "min") (fun xs H Q => ∃ i j, xs = [.int i, .int j] ∧ Q (.int (if j < i then j else i)) H) := by
  intro pins s σ H xs us Q I r h
  obtain ⟨i, j, rfl, q⟩ := h
  obtain ⟨u, w', rfl, ⟨t, rfl⟩, ⟨t', rfl⟩⟩ := vals2 r
  refine min_two_ints (I.ok.hd hc) fun h' tk k => ⟨_, H, I.kept k, ?_, q⟩
  by_cases hj : j < i
  · rw [if_pos hj, if_pos hj]; exact ⟨_, rfl⟩
  · rw [if_neg hj, if_neg hj]; exact ⟨_, rfl⟩
theorem call_int1 : CallR X (.type "int") (fun xs H Q => (∃ i, xs = [.int i] ∧ Q (.int i) H) ∨ ∃ k, xs = [.bl k] ∧ Q (.int (if k then 1 else 0)) H) := by
  intro pins s σ H xs us Q I r h
  rcases h with ⟨i, rfl, q⟩ | ⟨k, rfl, q⟩
  · obtain ⟨u, rfl, t, rfl⟩ := vals1 r
    exact call_int_int ⟨.int i, H, I, ⟨_, rfl⟩, q⟩
  · obtain ⟨u, rfl, r1⟩ := vals1 r
    cases r1
    exact call_int_bool ⟨.int (if k then 1 else 0), H, I.tok _, ⟨_, rfl⟩, q⟩
theorem call_bool1 : CallR X (.type "bool") (fun xs H Q => (∃ i, xs = [.int i] ∧ Q (.bl (i != 0)) H) ∨ ∃ k, xs = [.bl k] ∧ Q (.bl k) H) := by
  intro pins s σ H xs us Q I r h
  rcases h with ⟨i, rfl, q⟩ | ⟨k, rfl, q⟩
  · obtain ⟨u, rfl, t, rfl⟩ := vals1 r
    exact call_bool_int ⟨.bl (i != 0), H, I, rfl, q⟩
  · obtain ⟨u, rfl, r1⟩ := vals1 r
    cases r1
    exact call_bool_bool ⟨.bl k, H, I, rfl, q⟩
theorem call_str_int : CallR X (.type "str") (fun xs H Q => ∃ i, xs = [.int i] ∧ i.natAbs.log2 < 1920 ∧ Q (.str (toString i)) H) := by
  intro pins s σ H xs us Q I r h
  obtain ⟨i, rfl, hz, q⟩ := h
  obtain ⟨u, rfl, t, rfl⟩ := vals1 r
  exact PySem.P.str_of_int hz ⟨.str _, H, I.tok _, ⟨_, rfl⟩, q⟩
theorem call_ord : CallR X (.builtin "ord") (fun xs H Q => ∃ x, xs = [.str x] ∧ x.length = 1 ∧ Q (.int (x.cps.getD 0 0 : Nat)) H) := by
  intro pins s σ H xs us Q I r h
  obtain ⟨x, rfl, hz, q⟩ := h
  obtain ⟨u, rfl, t, rfl⟩ := vals1 r
  exact ord_of_one hz ⟨.int _, H, I.tok _, ⟨_, rfl⟩, q⟩
theorem call_chr : CallR X (.builtin "chr") (fun xs H Q => ∃ i, xs = [.int i] ∧ 0 ≤ i ∧ i ≤ 1114111 ∧ Q (.str ⟨#[i.toNat]⟩) H) := by
  intro pins s σ H xs us Q I r h
  obtain ⟨i, rfl, h0, h1, q⟩ := h
  obtain ⟨u, rfl, t, rfl⟩ := vals1 r
  exact chr_of_range h0 h1 ⟨.str _, H, I.tok _, ⟨_, rfl⟩, q⟩
/-- len of a str, a bytes, a list, a tuple -/
def LenV (K : PySem.W.Frag) (x : V) (H : Hp) (n : Nat) : Prop :=
  match x with
  | .str y => y.length ≤ sizeLine ∧ n = y.length
  | .byt y => y.size ≤ sizeLine ∧ n = y.size
  | .ref p => (∃ xs, SqL K H p xs ∧ n = xs.length) ∨ ∃ xs, SqT K H p xs ∧ n = xs.length
  | _ => False
theorem call_len : CallR X (.builtin "len") (fun xs H Q => ∃ x n, xs = [x] ∧ LenV X.K x H n ∧ Q (.int n) H) := by
  intro pins s σ H xs us Q I r h
  obtain ⟨x, n, rfl, e, q⟩ := h
  obtain ⟨u, rfl, rx⟩ := vals1 r
  have hl := line63
  have hs : sizeLine = 16777216 := sizeLine_eq
  cases x with
  | str y =>
    obtain ⟨t, rfl⟩ := rx
    obtain ⟨hy, e'⟩ : y.length ≤ sizeLine ∧ n = y.length := e
    subst e'
    exact len_str (by omega) ⟨.int _, H, I.tok _, ⟨_, rfl⟩, q⟩
  | byt y =>
    obtain ⟨t, rfl⟩ := rx
    obtain ⟨hy, e'⟩ : y.size ≤ sizeLine ∧ n = y.size := e
    subst e'
    exact PySem.W.len_bytes (by omega) ⟨.int _, H, I.tok _, ⟨_, rfl⟩, q⟩
  | ref p =>
    cases rx
    have e' : (∃ xs, SqL X.K H p xs ∧ n = xs.length) ∨ ∃ xs, SqT X.K H p xs ∧ n = xs.length := e
    rcases e' with ⟨xs, hx, e'⟩ | ⟨xs, hx, e'⟩
    · subst e'
      obtain ⟨its, r', pl, hz⟩ := I.list hx
      have hlen := r'.length
      exact Calls.call_len_list pl.isList (by simp only [List.size_toArray]; omega) ⟨.int xs.length, H, I.tok _, ⟨_, by simp only [List.size_toArray]; rw [hlen]⟩, q⟩
    · subst e'
      obtain ⟨its, r', pl, hz⟩ := I.tuple hx
      have hlen := r'.length
      exact len_tuple pl (by simp only [List.size_toArray]; omega) ⟨.int xs.length, H, I.tok _, ⟨_, by simp only [List.size_toArray]; rw [hlen]⟩, q⟩
  | _ => exact (show False from e).elim
/-- divmod: a new tuple -/
theorem call_divmod : CallR X (.builtin "divmod") (fun xs H Q => ∃ i j, xs = [.int i, .int j] ∧ CDiv i j ∧ ∀ p, H p = none → Q (.ref p) (upd H p (.tup [.int (i / j), .int (i % j)]))) := by
  intro pins s σ H xs us Q I r h
  obtain ⟨i, j, rfl, ⟨h1, h2⟩, q⟩ := h
  obtain ⟨u, w', rfl, ⟨t, rfl⟩, ⟨t', rfl⟩⟩ := vals2 r
  refine divmod_int (by omega) ?_ (.inl (PyProof.noPylong_small (by omega)))
  rw [Int.fdiv_eq_ediv_of_nonneg i (by omega), Int.fmod_eq_emod_of_nonneg i (by omega)]
  have hn : H s.heap.objs.size = none := I.hok.fresh (Nat.le_refl _)
  refine ⟨.ref s.heap.objs.size, _, ?_, rfl, q _ hn⟩
  refine I.laid (fun b o e => Heap.get?_push_of_some _ e) (Nat.le_refl _) ⟨by simp only [List.length_cons, List.length_nil]; rw [sizeLine_eq]; decide, [.int (i / j) s.toks, .int (i % j) (s.toks + 1)], .cons ⟨_, rfl⟩ (.cons ⟨_, rfl⟩ .nil), ?_⟩
  exact ⟨_, Heap.get?_push_size s.heap rfl, rfl, 0, rfl⟩
end
end L2

namespace L2
open PySem PySem.Spec PyProof.Rows

/-! ### an instance, its attributes a map -/
structure ObjM (h : Heap) (x dx C : Addr) (mA : Str → Option Value) : Prop where
  obj : h.get? x = some (PySem.W.instObj C dx)
  ns : h.Ns1 dx mA
  ne : dx ≠ x

theorem lookIn_ns {h : Heap} {dx : Addr} {mA : Str → Option Value} (n : h.Ns1 dx mA) : ∃ od, h.get? dx = some od ∧ ∀ name, PySem.W.lookIn name od = some (mA name) := by
  obtain ⟨o, es, ep, ho, hd, hk, _, hm⟩ := n
  refine ⟨o, ho, fun name => ?_⟩
  have e := hm name
  unfold nsFind findBy at e
  rw [← Array.find?_toList] at e
  unfold PySem.W.lookIn
  rw [hd]
  dsimp only
  split
  · rename_i y q
    rw [q] at e
    exact congrArg some e
  · rename_i q
    rw [q] at e
    have a : es.toList.any (·.refKey) = false := by
      rw [List.any_eq_false]
      intro y hy
      obtain ⟨z, t, hkey⟩ := hk y (Array.mem_toList_iff.mp hy)
      simp [DictEntry.refKey, hkey]
    have a' : ¬ es.toList.any (·.refKey) = true := by rw [a]; exact Bool.false_ne_true
    rw [if_neg a']
    exact congrArg some e

theorem ObjM.look {h : Heap} {x dx C : Addr} {mA : Str → Option Value} (I : ObjM h x dx C mA) : ∃ od, PySem.W.InstAt h x (PySem.W.instObj C dx) C (some od) ∧ ∀ name, PySem.W.lookIn name od = some (mA name) :=
  let ⟨od, ho, hl⟩ := lookIn_ns I.ns
  ⟨od, ⟨I.obj, rfl, rfl, ho⟩, hl⟩

section
variable {prog : Program} {w : World} {A : Around} {E : Value → Shared → Prop} {s : Shared} {K : PySem.W.Frag} {x dx C f : Addr} {mA : Str → Option Value} {name : Str} {v : Value}

theorem get_map {expr : Bool} {Q : Value → Shared → Prop} (X : K.In s.heap) (I : ObjM s.heap x dx C mA) (hg : PySem.W.plainGet K C name = true) (hh : PySem.W.hasDictIn K C = true)
    (ha : PySem.W.findIn K (.ref C) name = some none) (hv : mA name = some v) (hv' : PySem.W.handedIn v = true) (h : Q v { s with toks := s.toks + 1 }) :
    wpAny (model prog w) A (getAttr (.ref x) name expr) Q E s := by
  obtain ⟨od, J, hl⟩ := I.look
  exact PySem.W.get_value X J (PySem.W.plainGet_of hg).1 (PySem.W.findObj_own hh ha rfl (by rw [hl, hv])) hv' h

theorem get_const {expr : Bool} {a : Value} {Q : Value → Shared → Prop} (X : K.In s.heap) (I : ObjM s.heap x dx C mA) (hg : PySem.W.plainGet K C name = true) (hh : PySem.W.hasDictIn K C = true)
    (ha : PySem.W.findIn K (.ref C) name = some (some a)) (hn : PySem.W.specialIn K a "__get__" = some none) (hc : PySem.W.copiedNames.contains name = false) (hv : mA name = none) (hv' : PySem.W.handedIn a = true)
    (h : Q a { s with toks := s.toks + 1 }) : wpAny (model prog w) A (getAttr (.ref x) name expr) Q E s := by
  obtain ⟨od, J, hl⟩ := I.look
  exact PySem.W.get_value X J (PySem.W.plainGet_of hg).1 (PySem.W.findObj_cls hh ha hn hv' hc (by rw [hl, hv])) hv' h

theorem get_meth {pl : Sem Bool} {Q : Value × List Value → Shared → Prop} (X : K.In s.heap) (I : ObjM s.heap x dx C mA) (hg : PySem.W.plainGet K C name = true)
    (hf : PySem.W.findIn K (.ref C) name = some (some (.ref f))) (ht : PySem.W.isFn K (.ref f) = true) (hv : mA name = none) (h : Q (.ref f, [.ref x]) s) :
    wpAny (model prog w) A (getMethod (.ref x) name pl) Q E s := by
  obtain ⟨od, J, hl⟩ := I.look
  exact PySem.W.method_fn X J (PySem.W.plainGet_of hg).1 (PySem.W.plainGet_of hg).2 hf (beq_iff_eq.mp ht) (by show (PySem.W.lookIn name od).map (·.isSome) = some false; rw [hl, hv]; rfl) h

theorem set_map {ns : List Str} {Q : Unit → Shared → Prop} (X : K.In s.heap) (I : ObjM s.heap x dx C mA)
    (hs : PySem.W.findIn K (.ref C) "__setattr__" = some (some (.builtin "object.__setattr__"))) (hp : PySem.W.plainOver K C = true) (ht : PySem.W.takerIn K C name = some none) (hh : PySem.W.hasDictIn K C = true)
    (hw : PySem.Within mA ns) (hsz : ns.length ≤ sizeLine)
    (h : ∀ h', ObjM h' x dx C (fun y => if y = name then some v else mA y) → Heap.SameBut dx s.heap h' → Q () { s with heap := h', toks := s.toks + 2 }) :
    wpAny (model prog w) A (setAttr (.ref x) name v) Q E s := by
  obtain ⟨od, J, hl⟩ := I.look
  refine PySem.W.set_plain X J hs (PySem.W.osa_open (s := { s with toks := s.toks + 1 }) (r := none) X J hp ht fun b => ?_)
  obtain ⟨cd, hc, hd'⟩ := PySem.W.any_some hh
  have hx : s.heap.get? x = some ⟨.ref C, some dx, .plain, #[]⟩ := I.obj
  refine wpAny_bind (wpAny_pure (wpAny_bind (wpAny_bind (wpAny_loadPart hx (wpAny_bind (PySem.W.Looks.here (s := { s with toks := s.toks + 1 }) (PySem.W.looks_clsIn X hc) ?_))))))
  rw [hd']
  refine wpAny_pure (a := some dx) (wpAny_bind (wpAny_pure (wpAny_bind ?_)))
  refine wpAny_nsSet1 (s := { s with toks := s.toks + 1 }) I.ns fun h' hn2 hs2 => ?_
  obtain ⟨oD, esD, epD, hoD, hdD, hcD⟩ := hn2.count (PySem.Within.cons name v hw)
  refine wpAny_bind (wpAny_lookBehind hoD (by rw [hdD]; exact pastItsLine_dict (Nat.le_trans hcD (by rw [List.length_cons]; omega))) ?_)
  exact wpAny_pure (h _ ⟨(hs2.2 _ (Ne.symm I.ne)).trans I.obj, hn2, I.ne⟩ hs2)

/-- C(..): the dict at the heap's end, the instance behind it; then its __init__ -/
theorem make_map {R : Result → Shared → Prop} {vs : List Value} {kw : List (Str × Value)} (X : K.In s.heap) (hm : PySem.W.makesIn K C = true)
    (hi : PySem.W.findIn K (.ref C) "__init__" = some (some (.ref f))) (hf : PySem.W.typeIn K (.ref f) = some (.type "function"))
    (h : codeAny (model prog w) (A.under (.builtin "type.__call__" ⟨.ref C :: vs, kw⟩)) (.call (.ref f) ⟨.ref (s.heap.objs.size + 1) :: vs, kw⟩) (PySem.W.InitBack (s.heap.objs.size + 1) R)
      { s with heap := (s.heap.push PySem.W.emptyDict).push (PySem.W.instObj C s.heap.objs.size) }) :
    codeAny (model prog w) A (.call (.ref C) ⟨vs, kw⟩) R s := by
  obtain ⟨hh, g, d, t, os⟩ := s
  exact PySem.W.make_core (PySem.W.makes_of X hm) (PySem.W.looks_findIn X hi) (fun self => PySem.W.bind_fn X self hf) (.inl rfl) h
/-- C() where there is no __init__ but object's -/
theorem make_map0 {R : Result → Shared → Prop} (X : K.In s.heap) (hm : PySem.W.makesIn K C = true)
    (hi : PySem.W.findIn K (.ref C) "__init__" = some (some (.builtin "object.__init__")))
    (hb : ∀ self, PySem.W.Looks (model prog w) s.heap (bindSpecial (.builtin "object.__init__") self) (.builtin "object.__init__", [self]))
    (h : codeAny (model prog w) (A.under (.builtin "type.__call__" ⟨[.ref C], []⟩)) (.call (.builtin "object.__init__") ⟨[.ref (s.heap.objs.size + 1)], []⟩) (PySem.W.InitBack (s.heap.objs.size + 1) R)
      { s with heap := (s.heap.push PySem.W.emptyDict).push (PySem.W.instObj C s.heap.objs.size) }) :
    codeAny (model prog w) A (.call (.ref C) ⟨[], []⟩) R s := by
  obtain ⟨hh, g, d, t, os⟩ := s
  exact PySem.W.make_core (PySem.W.makes_of X hm) (PySem.W.looks_findIn X hi) hb (.inr ⟨rfl, rfl⟩) h
end

/-! ### the attributes as a list of pairs -/
def putF (f : Str) (v : V) : List (Str × V) → List (Str × V)
  | [] => [(f, v)]
  | (g, x) :: r => if g = f then (g, v) :: r else (g, x) :: putF f v r
theorem lookup_putF (f g : Str) (v : V) : ∀ fs : List (Str × V), (putF f v fs).lookup g = if g = f then some v else fs.lookup g
  | [] => by
    show List.lookup g [(f, v)] = _
    by_cases h : g = f
    · have hb : (g == f) = true := beq_iff_eq.mpr h
      simp only [List.lookup, hb, if_pos h]
    · have hb : (g == f) = false := beq_eq_false_iff_ne.mpr h
      simp only [List.lookup, hb, if_neg h]
  | (k, x) :: r => by
    have ih := lookup_putF f g v r
    rw [show putF f v ((k, x) :: r) = (if k = f then (k, v) :: r else (k, x) :: putF f v r) from rfl]
    by_cases hk : k = f
    · rw [if_pos hk]
      by_cases h : g = k
      · have hb : (g == k) = true := beq_iff_eq.mpr h
        simp only [List.lookup, hb, if_pos (h.trans hk)]
      · have hb : (g == k) = false := beq_eq_false_iff_ne.mpr h
        simp only [List.lookup, hb, if_neg (fun e : g = f => h (e.trans hk.symm))]
    · rw [if_neg hk]
      by_cases h : g = k
      · have hb : (g == k) = true := beq_iff_eq.mpr h
        simp only [List.lookup, hb, if_neg (fun e : g = f => hk (h.symm.trans e))]
      · have hb : (g == k) = false := beq_eq_false_iff_ne.mpr h
        simp only [List.lookup, hb]
        exact ih
theorem keys_putF (f : Str) (v : V) : ∀ fs : List (Str × V), f ∈ (putF f v fs).map (·.1) ∧ ∀ g, g ∈ fs.map (·.1) → g ∈ (putF f v fs).map (·.1)
  | [] => ⟨by simp [putF], fun g h => by simp at h⟩
  | (k, x) :: r => by
    obtain ⟨i1, i2⟩ := keys_putF f v r
    rw [show putF f v ((k, x) :: r) = (if k = f then (k, v) :: r else (k, x) :: putF f v r) from rfl]
    by_cases hk : k = f
    · rw [if_pos hk]
      subst hk
      exact ⟨by simp, fun g h => by simpa using h⟩
    · rw [if_neg hk]
      refine ⟨?_, fun g h => ?_⟩
      · rw [List.map_cons]
        exact List.mem_cons_of_mem _ i1
      · rw [List.map_cons] at h ⊢
        rcases List.mem_cons.mp h with e | e
        · exact List.mem_cons.mpr (.inl e)
        · exact List.mem_cons_of_mem _ (i2 g e)
theorem length_putF (f : Str) (v : V) : ∀ fs : List (Str × V), (putF f v fs).length ≤ fs.length + 1
  | [] => by simp [putF]
  | (k, x) :: r => by
    have ih := length_putF f v r
    rw [show putF f v ((k, x) :: r) = (if k = f then (k, v) :: r else (k, x) :: putF f v r) from rfl]
    by_cases hk : k = f
    · rw [if_pos hk, List.length_cons, List.length_cons]; omega
    · rw [if_neg hk, List.length_cons, List.length_cons]; omega

theorem RelO.some_of {v : V} {o : Option Value} (r : RelO (some v) o) : ∃ u, o = some u ∧ RelV v u := by
  cases o with
  | none => exact (show False from r).elim
  | some u => exact ⟨u, rfl, r⟩
theorem RelO.none_of {o : Option Value} (r : RelO none o) : o = none := by
  cases o with
  | none => rfl
  | some u => exact (show False from r).elim
theorem handed_of {v : V} {u : Value} (r : RelV v u) : PySem.W.handedIn u = true := by
  cases v with
  | non => cases (show u = Value.none from r); rfl
  | bl b => cases (show u = Value.bool b from r); rfl
  | int i => obtain ⟨t, e⟩ := (show ∃ t, u = Value.int i t from r); cases e; rfl
  | str x => obtain ⟨t, e⟩ := (show ∃ t, u = Value.str x t from r); cases e; rfl
  | byt b => obtain ⟨t, e⟩ := (show ∃ t, u = Value.bytes b t from r); cases e; rfl
  | flt b => obtain ⟨t, e⟩ := (show ∃ t, u = Value.float b t from r); cases e; rfl
  | ref a => cases (show u = Value.ref a from r); rfl
  | ty n => cases (show u = Value.type n from r); rfl

section
variable {P : Program} {w : World} {H H' : Hp} {h h' : Heap} {a C dx : Addr} {fs fs' : List (Str × V)}
theorem ins_get (hok : HOk P w H h) (e : H a = some (.ins C dx fs)) : ∃ mA, ObjM h a dx C mA ∧ (∀ f, RelO (fs.lookup f) (mA f)) ∧ PySem.Within mA (fs.map (·.1)) ∧ fs.length ≤ 1000 ∧ H dx = some (.own a) := by
  obtain ⟨d, z, ne, ob, mA, n, r, q⟩ := (show ObjOk P w H h a (.ins C dx fs) from hok a _ e)
  exact ⟨mA, ⟨ob, n, ne⟩, r, q, z, d⟩
end

/-! ### what of the text a class must have -/
structure Cls (K : PySem.W.Frag) (C : Addr) : Prop where
  pg : PySem.W.plainGet K C Str.empty = true
  hd : PySem.W.hasDictIn K C = true
  po : PySem.W.plainOver K C = true
  sa : PySem.W.findIn K (.ref C) "__setattr__" = some (some (.builtin "object.__setattr__"))
theorem Cls.get {K : PySem.W.Frag} {C : Addr} (c : Cls K C) (f : Str) : PySem.W.plainGet K C f = true := c.pg
/-- no class of it has the name -/
def NoAttr (K : PySem.W.Frag) (C : Addr) (f : Str) : Prop := PySem.W.findIn K (.ref C) f = some none
theorem NoAttr.taker {K : PySem.W.Frag} {C : Addr} {f : Str} (n : NoAttr K C f) : PySem.W.takerIn K C f = some none := by
  unfold PySem.W.takerIn
  rw [show PySem.W.findIn K (.ref C) f = some none from n]
  rfl
/-- a constant of the class -/
structure Con (K : PySem.W.Frag) (C : Addr) (f : Str) (v : V) (u : Value) : Prop where
  at_ : PySem.W.findIn K (.ref C) f = some (some u)
  rel : RelV v u
  get : PySem.W.specialIn K u "__get__" = some none
  cp : PySem.W.copiedNames.contains f = false
/-- a method: a plain def of the class or of one above it -/
structure Meth (K : PySem.W.Frag) (C : Addr) (m : Str) (f : Addr) : Prop where
  at_ : PySem.W.findIn K (.ref C) m = some (some (.ref f))
  fn : PySem.W.isFn K (.ref f) = true
  kp : PySem.W.keepIn K (.ref f) = true

section
variable {X : Cx} {pins : List (Addr × Obj)} {σ : St} {H : Hp} {s : Shared} {a C dx : Addr} {fs : List (Str × V)} {f : Str} {v : V} {A : Around} {E : Value → Shared → Prop}

theorem getattr_ok {b : Bool} {Q : Value → Shared → Prop} (I : Inv X pins σ H s) (e : H a = some (.ins C dx fs)) (c : Cls X.K C) (n : NoAttr X.K C f) (l : fs.lookup f = some v)
    (h : ∀ u s', Inv X pins σ H s' → RelV v u → Q u s') : wpAny (model X.prog X.w) A (getAttr (.ref a) f b) Q E s := by
  obtain ⟨mA, O, r, _, _, _⟩ := ins_get I.hok e
  obtain ⟨u, hu, ru⟩ := RelO.some_of (v := v) (o := mA f) (by rw [← l]; exact r f)
  exact get_map I.kIn O (c.get f) c.hd n hu (handed_of ru) (h u _ (I.tok _) ru)

theorem getcon_ok {b : Bool} {u : Value} {Q : Value → Shared → Prop} (I : Inv X pins σ H s) (e : H a = some (.ins C dx fs)) (c : Cls X.K C) (k : Con X.K C f v u) (l : fs.lookup f = none)
    (h : ∀ s', Inv X pins σ H s' → Q u s') : wpAny (model X.prog X.w) A (getAttr (.ref a) f b) Q E s := by
  obtain ⟨mA, O, r, _, _, _⟩ := ins_get I.hok e
  have hn : mA f = none := RelO.none_of (by rw [← l]; exact r f)
  exact get_const I.kIn O (c.get f) c.hd k.at_ k.get k.cp hn (handed_of k.rel) (h _ (I.tok _))

theorem getmeth_ok {m : Str} {g : Addr} {pl : Sem Bool} {Q : Value × List Value → Shared → Prop} (I : Inv X pins σ H s) (e : H a = some (.ins C dx fs)) (c : Cls X.K C) (k : Meth X.K C m g) (l : fs.lookup m = none)
    (h : Q (.ref g, [.ref a]) s) : wpAny (model X.prog X.w) A (getMethod (.ref a) m pl) Q E s := by
  obtain ⟨mA, O, r, _, _, _⟩ := ins_get I.hok e
  have hn : mA m = none := RelO.none_of (by rw [← l]; exact r m)
  exact get_meth I.kIn O (c.get m) k.at_ k.fn hn h

theorem setattr_ok {y : V} {u : Value} {Q : Unit → Shared → Prop} (I : Inv X pins σ H s) (e : H a = some (.ins C dx fs)) (c : Cls X.K C) (n : NoAttr X.K C f) (hl : fs.length < 1000) (ry : RelV y u)
    (h : ∀ s', Inv X pins σ (upd H a (.ins C dx (putF f y fs))) s' → Q () s') : wpAny (model X.prog X.w) A (setAttr (.ref a) f u) Q E s := by
  obtain ⟨mA, O, r, wi, _, ho⟩ := ins_get I.hok e
  have hz : (fs.map (·.1)).length ≤ sizeLine := by rw [List.length_map, sizeLine_eq]; omega
  refine set_map I.kIn O c.sa c.po n.taker c.hd wi hz fun h' O' sb => h _ ?_
  have hd : ∃ o, h'.get? dx = some o := let ⟨o, _, _, e', _⟩ := O'.ns; ⟨o, e'⟩
  refine I.write (x := a) (e := dx) (by rw [e]; exact True.intro) (.inr ho) (fun b q hb z => (sb.2 b hb).trans z) hd ?_
  refine ⟨by rw [upd_ne O.ne]; exact ho, ?_, O.ne, O'.obj, _, O'.ns, fun g => ?_, fun g hg => ?_⟩
  · have := length_putF f y fs; omega
  · show RelO ((putF f y fs).lookup g) (if g = f then some u else mA g)
    rw [lookup_putF]
    by_cases q : g = f
    · rw [if_pos q, if_pos q]; exact ry
    · rw [if_neg q, if_neg q]; exact r g
  · by_cases q : g = f
    · rw [q]; exact (keys_putF f y fs).1
    · refine (keys_putF f y fs).2 g (wi g fun z => hg ?_)
      show (if g = f then some u else mA g) = none
      rw [if_neg q]; exact z

/-- a new instance, tracked, without attributes -/
theorem Inv.made (I : Inv X pins σ H s) : Inv X pins σ (upd (upd H s.heap.objs.size (.own (s.heap.objs.size + 1))) (s.heap.objs.size + 1) (.ins C s.heap.objs.size []))
    { s with heap := (s.heap.push PySem.W.emptyDict).push (PySem.W.instObj C s.heap.objs.size) } := by
  have e1 : (s.heap.push PySem.W.emptyDict).get? s.heap.objs.size = some PySem.W.emptyDict := Heap.get?_push_size s.heap rfl
  have e2 : ((s.heap.push PySem.W.emptyDict).push (PySem.W.instObj C s.heap.objs.size)).get? (s.heap.objs.size + 1) = some (PySem.W.instObj C s.heap.objs.size) := by
    have := Heap.get?_push_size (s.heap.push PySem.W.emptyDict) (o := PySem.W.instObj C s.heap.objs.size) rfl
    rwa [Heap.size_push] at this
  have e3 : (s.heap.push PySem.W.emptyDict).Ns s.heap.objs.size (fun _ => none) := ⟨PySem.W.emptyDict, #[], _, e1, rfl, (fun e he => absurd he (by simp)), fun _ => rfl⟩
  have I1 := I.laid (a := s.heap.objs.size) (o := .own (s.heap.objs.size + 1)) (h' := s.heap.push PySem.W.emptyDict) (t' := s.toks) (fun b u q => Heap.get?_push_of_some _ q) (Nat.le_refl _) ⟨_, e1⟩
  refine I1.laid (a := s.heap.objs.size + 1) (o := .ins C s.heap.objs.size []) (t' := s.toks) (fun b u q => Heap.get?_push_of_some _ q) (Nat.le_of_eq (Heap.size_push _ _)) ?_
  have ne : s.heap.objs.size ≠ s.heap.objs.size + 1 := Nat.ne_of_lt (Nat.lt_succ_self _)
  refine ⟨by rw [upd_ne ne, upd_same], Nat.zero_le _, ne, e2, fun _ => none, (Heap.Ns1.of_empty e3).at fun o q => Heap.get?_push_of_some _ q, fun _ => True.intro, fun y hy => absurd rfl hy⟩

/-- e.f where nothing but the object is asked: through attributeBase (super) and the last hold -/
theorem attr_of {prog : Program} {w : World} {env : Env} {e : Expr} {f : Str} {pos : Pos} {s : Shared} {Q : Value → Shared → Prop} (hb : attributeBase e f env (eval e env) = eval e env)
    (h : wpAny (model prog w) A (eval e env) (fun o s₁ => wpAny (model prog w) A (getAttr o f true) Q E s₁) E s) : wpAny (model prog w) A (eval (.Attribute e f pos) env) Q E s :=
  Attribute_any_ h (by rw [arm_eval_Attribute, hb])
end

/-! ### readings and rules -/
/-- e.f, an attribute of the instance -/
def tFld (K : PySem.W.Frag) (ta : TE) (f : Str) : TE := fun σ H Q => ta σ H fun x H1 => ∃ a C dx fs v, x = .ref a ∧ H1 a = some (.ins C dx fs) ∧ Cls K C ∧ NoAttr K C f ∧ fs.lookup f = some v ∧ Q v H1
/-- e.f, a constant of the class -/
def tCon (K : PySem.W.Frag) (ta : TE) (f : Str) : TE := fun σ H Q => ta σ H fun x H1 => ∃ a C dx fs v u, x = .ref a ∧ H1 a = some (.ins C dx fs) ∧ Cls K C ∧ Con K C f v u ∧ fs.lookup f = none ∧ Q v H1
/-- e.f = value -/
def sFld (K : PySem.W.Frag) (ta tv : TE) (f : Str) : TS := fun D σ H => tv σ H fun y H1 => ta σ H1 fun x H2 => ∃ a C dx fs, x = .ref a ∧ H2 a = some (.ins C dx fs) ∧ Cls K C ∧ NoAttr K C f ∧ fs.length < 1000 ∧
  D.nx σ (upd H2 a (.ins C dx (putF f y fs)))
/-- an augmented operator on two values -/
def InOp (X : Cx) (op : Operator) (rd : V → V → Hp → VK → Prop) : Prop :=
  ∀ (pins : List (Addr × Obj)) (s : Shared) (σ : St) (H : Hp) (x y : V) (u v : Value) (Q : VK), Inv X pins σ H s → RelV x u → RelV y v → rd x y H Q → wpAny (model X.prog X.w) X.A (inplaceOp op u v) (EP X pins σ Q) X.xe s
/-- e.f op= value -/
def sFldAug (K : PySem.W.Frag) (ta tv : TE) (rd : V → V → Hp → VK → Prop) (f : Str) : TS := fun D σ H => ta σ H fun x H1 => ∃ a C dx fs v, x = .ref a ∧ H1 a = some (.ins C dx fs) ∧ Cls K C ∧ NoAttr K C f ∧ fs.lookup f = some v ∧
  tv σ H1 fun y H2 => rd v y H2 fun z H3 => ∃ dx' fs', H3 a = some (.ins C dx' fs') ∧ fs'.length < 1000 ∧ D.nx σ (upd H3 a (.ins C dx' (putF f z fs')))

section
variable {X : Cx} {o e value : Expr} {f : Str} {pos pos' tpos : Pos} {ta tv : TE}
theorem pe_fld (he : PE X e ta) (hb : attributeBase e f X.env (eval e X.env) = eval e X.env) : PE X (.Attribute e f pos) (tFld X.K ta f) := by
  intro pins s σ H Q I h
  refine attr_of hb (thn (he pins s σ H _ I h) fun u s1 ⟨x, H1, I1, rx, a, C, dx, fs, v, ex, ea, c, n, l, q⟩ => ?_)
  subst ex
  obtain rfl : u = Value.ref a := rx
  exact getattr_ok I1 ea c n l fun u' s2 I2 ru => ⟨v, H1, I2, ru, q⟩
theorem pe_con (he : PE X e ta) (hb : attributeBase e f X.env (eval e X.env) = eval e X.env) : PE X (.Attribute e f pos) (tCon X.K ta f) := by
  intro pins s σ H Q I h
  refine attr_of hb (thn (he pins s σ H _ I h) fun u s1 ⟨x, H1, I1, rx, a, C, dx, fs, v, u0, ex, ea, c, k, l, q⟩ => ?_)
  subst ex
  obtain rfl : u = Value.ref a := rx
  exact getcon_ok I1 ea c k l fun s2 I2 => ⟨v, H1, I2, k.rel, q⟩
theorem ps_fld (ha : PE X o ta) (hv : PE X value tv) (hs : swapsWith value (some (.Attribute o f pos')) pos.line X.env = pure false) : PS X (.Assign [.Attribute o f pos'] value pos) (sFld X.K ta tv f) := by
  intro pins s σ H D I h
  refine plainObj_wpAny_Assign_Attribute (thn (hv pins s σ H _ I h) fun u s1 ⟨y, H1, I1, ry, q⟩ => thn (ha pins s1 σ H1 _ I1 q) fun ov s2 ⟨x, H2, I2, rx, a, C, dx, fs, ex, ea, c, n, l, q2⟩ => ?_) hs
  subst ex
  obtain rfl : ov = Value.ref a := rx
  exact setattr_ok I2 ea c n l ry fun s3 I3 => ⟨σ, _, I3, q2⟩
theorem ps_fldaug {op : Operator} {rd : V → V → Hp → VK → Prop} (ha : PE X o ta) (hv : PE X value tv) (hop : InOp X op rd) : PS X (.AugAssign (.Attribute o f tpos) op value pos) (sFldAug X.K ta tv rd f) := by
  intro pins s σ H D I h
  refine wpAny_AugAssign_AttributeAny (thn (ha pins s σ H _ I h) fun ov s1 ⟨x, H1, I1, rx, a, C, dx, fs, v, ex, ea, c, n, l, q⟩ => ?_)
  subst ex
  obtain rfl : ov = Value.ref a := rx
  refine getattr_ok I1 ea c n l fun u s2 I2 ru => thn (hv pins s2 σ H1 _ I2 q) fun w3 s3 ⟨y, H2, I3, ry, q3⟩ => thn (hop pins s3 σ H2 v y u w3 _ I3 ru ry q3) fun w4 s4 ⟨z, H3, I4, rz, dx', fs', ea', l', q4⟩ => ?_
  exact setattr_ok I4 ea' c n l' rz fun s5 I5 => ⟨σ, _, I5, q4⟩
def rAdd : V → V → Hp → VK → Prop := fun x y H Q => ∃ i j, x = .int i ∧ y = .int j ∧ Q (.int (i + j)) H
def rSub : V → V → Hp → VK → Prop := fun x y H Q => ∃ i j, x = .int i ∧ y = .int j ∧ Q (.int (i - j)) H
theorem in_add : InOp X .Add rAdd := by
  rintro pins s σ H x y u v Q I rx ry ⟨i, j, rfl, rfl, q⟩
  obtain ⟨t, rfl⟩ := (show ∃ t, u = Value.int i t from rx)
  obtain ⟨t', rfl⟩ := (show ∃ t', v = Value.int j t' from ry)
  exact PyProof.Rows.iadd_int ⟨.int (i + j), H, I.tok _, ⟨_, rfl⟩, q⟩
theorem in_sub : InOp X .Sub rSub := by
  rintro pins s σ H x y u v Q I rx ry ⟨i, j, rfl, rfl, q⟩
  obtain ⟨t, rfl⟩ := (show ∃ t, u = Value.int i t from rx)
  obtain ⟨t', rfl⟩ := (show ∃ t', v = Value.int j t' from ry)
  exact PyProof.Rows.isub_int ⟨.int (i - j), H, I.tok _, ⟨_, rfl⟩, q⟩

/-- what is between an instance and its method: the tree of a method call -/
theorem methcall_of {pl : Sem Bool} {m : Str} {apos : Pos} {args : List Expr} {pins : List (Addr × Obj)} {s : Shared} {σ : St} {H : Hp} {Q : Value → Shared → Prop} {te : TE} (he : PE X e te) (I : Inv X pins σ H s)
    (h : te σ H fun x H1 => ∃ a C dx fs g, x = .ref a ∧ H1 a = some (.ins C dx fs) ∧ Cls X.K C ∧ Meth X.K C m g ∧ fs.lookup m = none ∧
      ∀ s1, Inv X pins σ H1 s1 → wpAny (model X.prog X.w) X.A (callWith pos (.ref g) [.ref a] (backTo pos (starEach args X.env)) (backToKw pos (keywordEach [] X.env))) Q X.xe s1)
    (ht : eval (.Call (.Attribute e m apos) args [] pos) X.env = (do
      let ov ← eval e X.env
      standAt apos.atName
      let (f, first) ← holding [ov] (getMethod ov m pl)
      callWith pos f first (backTo pos (starEach args X.env)) (backToKw pos (keywordEach [] X.env)))) :
    wpAny (model X.prog X.w) X.A (eval (.Call (.Attribute e m apos) args [] pos) X.env) Q X.xe s := by
  refine PySem.W.methodCall_KW (pl := pl) (thn (he pins s σ H _ I h) fun u s1 ⟨x, H1, I1, rx, a, C, dx, fs, g, ex, ea, c, k, l, q⟩ => ?_) ht
  subst ex
  obtain rfl : u = Value.ref a := rx
  exact getmeth_ok I1 ea c k l (q s1 I1)
end

/-! ### isinstance -/
section
variable {X : Cx} {pins : List (Addr × Obj)} {σ : St} {H : Hp} {s : Shared} {A : Around} {E : Value → Shared → Prop} {Q : Value → Shared → Prop} {c : Value} {b : Bool}
/-- the type of a value, as the fragment's deciders take it; for an instance its class -/
inductive TyOf (K : PySem.W.Frag) (H : Hp) : V → Value → Prop where
  | non : TyOf K H .non (.type "NoneType")
  | bl (x : Bool) : TyOf K H (.bl x) (.type "bool")
  | int (i : Int) : TyOf K H (.int i) (.type "int")
  | str (x : Str) : TyOf K H (.str x) (.type "str")
  | flt (x : UInt64) : TyOf K H (.flt x) (.type "float")
  | lst {a : Addr} {xs : List V} (e : H a = some (.lst xs)) : TyOf K H (.ref a) (.type "list")
  | frz {a : Addr} {o : Obj} {xs : List V} (e : H a = some (.frz o (.lst xs))) : TyOf K H (.ref a) (.type "list")
  | tup {a : Addr} {xs : List V} (e : H a = some (.tup xs)) : TyOf K H (.ref a) (.type "tuple")
  | dK {a : Addr} {kvs : List (Key × V)} (e : H a = some (.dK kvs)) : TyOf K H (.ref a) (.type "dict")
  | dT {a : Addr} {kvs : List (List Key × V)} (e : H a = some (.dT kvs)) : TyOf K H (.ref a) (.type "dict")
  | ins {a C dx : Addr} {fs : List (Str × V)} (e : H a = some (.ins C dx fs)) (cl : Cls K C) (ha : PySem.W.findIn K (.ref C) "__class__" = some (some (.builtin "object.__class__")))
      (hn : PySem.W.specialIn K (.builtin "object.__class__") "__get__" = some (some (.builtin "getset_descriptor.__get__"))) (htk : PySem.W.takesIn K (.builtin "object.__class__") = some true)
      (hm : PySem.W.mroIn K C (.type "object") = some true) : TyOf K H (.ref a) (.ref C)
/-- isinstance(x, c) for one class c, a built-in or an own one: kitOne's answer -/
theorem isinst_ok {x : V} {u t : Value} (I : Inv X pins σ H s) (rx : RelV x u) (ty : TyOf X.K H x t) (e : PySem.W.kitOne X.K t c = some b) (h : ∀ tk, Q (.bool b) { s with toks := tk }) :
    wpAny (model X.prog X.w) A (call (.builtin "isinstance") [u, c]) Q E s := by
  cases ty with
  | non => cases (show u = Value.none from rx); exact PySem.W.kia_one PySem.W.kitx_none I.kIn True.intro e (fun z => nomatch z) h
  | bl y => cases (show u = Value.bool y from rx); exact PySem.W.kia_one PySem.W.kitx_bool I.kIn True.intro e (fun z => nomatch z) h
  | int i => obtain ⟨t, q⟩ := (show ∃ t, u = Value.int i t from rx); cases q; exact PySem.W.kia_one PySem.W.kitx_int I.kIn True.intro e (fun z => nomatch z) h
  | str y => obtain ⟨t, q⟩ := (show ∃ t, u = Value.str y t from rx); cases q; exact PySem.W.kia_one PySem.W.kitx_str I.kIn True.intro e (fun z => nomatch z) h
  | flt y => obtain ⟨t, q⟩ := (show ∃ t, u = Value.float y t from rx); cases q; exact PySem.W.kia_one PySem.W.kitx_float I.kIn True.intro e (fun z => nomatch z) h
  | @lst a xs ea =>
    cases (show u = Value.ref a from rx)
    obtain ⟨_, _, n, _, h1⟩ := (show ObjOk X.prog X.w H s.heap a (.lst xs) from I.hok a _ ea)
    exact PySem.W.kia_one PySem.W.kitx_list I.kIn ⟨_, h1, rfl⟩ e (fun z => nomatch z) h
  | @frz a ob xs ea =>
    cases (show u = Value.ref a from rx)
    obtain ⟨_, _, _, n, _, h1⟩ := (show ObjOk X.prog X.w H s.heap a (.frz ob (.lst xs)) from I.hok a _ ea)
    exact PySem.W.kia_one PySem.W.kitx_list I.kIn ⟨_, h1, rfl⟩ e (fun z => nomatch z) h
  | @tup a xs ea =>
    cases (show u = Value.ref a from rx)
    obtain ⟨_, _, _, p⟩ := (show ObjOk X.prog X.w H s.heap a (.tup xs) from I.hok a _ ea)
    obtain ⟨o, h1, h2, _⟩ := p
    exact PySem.W.kia_one PySem.W.kitx_tuple I.kIn ⟨o, h1, h2⟩ e (fun z => nomatch z) h
  | @dK a kvs ea =>
    cases (show u = Value.ref a from rx)
    obtain ⟨_, _, vs, _, p⟩ := (show ObjOk X.prog X.w H s.heap a (.dK kvs) from I.hok a _ ea)
    obtain ⟨o, es, ep, h1, h2, _⟩ := p
    exact PySem.W.kia_one PySem.W.kitx_dict I.kIn ⟨o, h1, h2.1⟩ e (fun z => nomatch z) h
  | @dT a kvs ea =>
    cases (show u = Value.ref a from rx)
    obtain ⟨_, _, xs, _, o, es, ep, h1, h2, _⟩ := (show ObjOk X.prog X.w H s.heap a (.dT kvs) from I.hok a _ ea)
    exact PySem.W.kia_one PySem.W.kitx_dict I.kIn ⟨o, h1, h2.1⟩ e (fun z => nomatch z) h
  | @ins a C dx fs ea cl ha hn htk hm =>
    cases (show u = Value.ref a from rx)
    obtain ⟨mA, O, _⟩ := ins_get I.hok ea
    obtain ⟨od, J, _⟩ := O.look
    exact PySem.W.kia_one (PySem.W.kitx_own (cl.get _) cl.hd ha hn htk hm) I.kIn J e (fun z => nomatch z) h
end
end L2

namespace L2
open PySem PySem.Spec PyProof.Rows

/-! ### room -/
structure Room (k : Nat) (A : Around) : Prop where
  hd : A.handled = none
  dp : A.depth + 3 * k + 5 < recursionLimit
  un : A.units + 16 * k + 200 < cLine
theorem Room.mono {j k : Nat} {A : Around} (r : Room k A) (h : j ≤ k) : Room j A := ⟨r.hd, by have := r.dp; omega, by have := r.un; omega⟩
theorem Room.deeper {k : Nat} {A : Around} (r : Room (k + 1) A) (env : Env) : Room k (A.deeper env) :=
  ⟨r.hd, by have := r.dp; show A.depth + 1 + 3 * k + 5 < _; omega, by have := r.un; show A.units + 3 + 16 * k + 200 < _; omega⟩
theorem Room.in1 {k : Nat} {A : Around} (r : Room (k + 1) A) : Room k A.in1 :=
  ⟨r.hd, by have := r.dp; show A.depth + 3 * k + 5 < _; omega, by have := r.un; show A.units + 1 + 16 * k + 200 < _; omega⟩
theorem make_depth {A : Around} {C : Addr} {us : List Value} {kw : List (Str × Value)} : (A.under (.builtin "type.__call__" ⟨.ref C :: us, kw⟩)).depth = A.depth + 1 := by
  first | rfl | simp [Around.under, Code.weight, Code.isCreation, Code.isGuard, Code.isCaller, Code.frames, Code.isFrame, guardIds]
theorem make_units {A : Around} {C : Addr} {us : List Value} {kw : List (Str × Value)} : (A.under (.builtin "type.__call__" ⟨.ref C :: us, kw⟩)).units = A.units + 1 := by
  first | rfl | simp [Around.under, Code.cUnits, Code.frames, Code.isFrame]
theorem Room.make {k : Nat} {A : Around} (r : Room (k + 1) A) (C : Addr) (us : List Value) (kw : List (Str × Value)) : Room k (A.under (.builtin "type.__call__" ⟨.ref C :: us, kw⟩)) :=
  ⟨r.hd, by have := r.dp; rw [make_depth]; omega, by have := r.un; rw [make_units]; omega⟩
theorem Room.depth {k : Nat} {A : Around} (r : Room k A) : A.depth < recursionLimit := by have := r.dp; omega
theorem Room.units {k : Nat} {A : Around} (r : Room k A) : A.units + 64 < cLine := by have := r.un; omega
theorem Room.units0 {k : Nat} {A : Around} (r : Room k A) : A.units < cLine := by have := r.un; omega

/-! ### argument lists and displays -/
def tNil : TA := fun _ H Q => Q [] H
def tCons (ta : TE) (tr : TA) : TA := fun σ H Q => ta σ H fun x H1 => tr σ H1 fun xs H2 => Q (x :: xs) H2
section
variable {X : Cx} {e : Expr} {es : List Expr} {te : TE} {t : TA} {pos : Pos}
theorem pa_nil : PA X [] tNil := fun _ _ _ _ H Q I h => Calls.spliced_nil ⟨[], H, I, .nil, h⟩
theorem pa_cons (ha : PE X e te) (hr : PA X es t) (hs : starEach (e :: es) X.env = (false, eval e X.env) :: starEach es X.env := by rfl) : PA X (e :: es) (tCons te t) := by
  intro pos pins s σ H Q I h
  rw [hs]
  show wpAny _ _ (spliced ((false, eval e X.env) :: backTo pos (starEach es X.env))) _ _ s
  refine Calls.spliced_cons (thn (ha pins s σ H _ I h) fun u s1 ⟨x, H1, I1, r1, q1⟩ => ?_)
  exact thn (hr pos pins s1 σ H1 _ I1 q1) fun us s2 ⟨xs, H2, I2, r2, q2⟩ => ⟨x :: xs, H2, I2, .cons r1 r2, q2⟩

/-- a tuple, a list of written items -/
def tTup (t : TA) : TE := fun σ H Q => t σ H fun xs H1 => xs.length ≤ sizeLine ∧ ∀ p, H1 p = none → Q (.ref p) (upd H1 p (.tup xs))
def tLst (t : TA) : TE := fun σ H Q => t σ H fun xs H1 => xs.length ≤ sizeLine ∧ ∀ p, H1 p = none → Q (.ref p) (upd H1 p (.lst xs))
theorem pe_tup {x1} (h : PA X es t) : PE X (.Tuple es x1 pos) (tTup t) := by
  intro pins s σ H Q I hq
  refine wpAny_Tuple_spliced (thn (h pos pins s σ H _ I hq) fun us s1 ⟨xs, H1, I1, r, z, q⟩ => ⟨by rw [← r.length]; exact z, ?_⟩)
  have hf : H1 s1.heap.objs.size = none := I1.hok.fresh (Nat.le_refl _)
  refine ⟨.ref s1.heap.objs.size, upd H1 s1.heap.objs.size (.tup xs), I1.laid (t' := s1.toks) (fun b u e => Heap.get?_push_of_some _ e) (Nat.le_refl _) ?_, rfl, q _ hf⟩
  exact ⟨z, us, r, ⟨_, Heap.get?_push_size _ rfl, rfl, _, rfl⟩⟩
theorem pe_lst (h : PA X es t) : PE X (.List es pos) (tLst t) := by
  intro pins s σ H Q I hq
  refine wpAny_List_spliced (thn (h pos pins s σ H _ I hq) fun us s1 ⟨xs, H1, I1, r, z, q⟩ => ⟨by rw [← r.length]; exact z, ?_⟩)
  have hf : H1 s1.heap.objs.size = none := I1.hok.fresh (Nat.le_refl _)
  refine ⟨.ref s1.heap.objs.size, upd H1 s1.heap.objs.size (.lst xs), I1.laid (t' := s1.toks) (fun b u e => Heap.get?_push_of_some _ e) (Nat.le_refl _) ?_, rfl, q _ hf⟩
  exact ⟨z, us, 0, r, Heap.get?_push_size _ rfl⟩
end

/-! ### what a def promises -/
/-- a def's promise: the bound arguments in the parameters' order, the heap, the wanted end, the wanted exception -/
abbrev Sp := List V → Hp → VK → XK → Prop
/-- how an exception lies behind a call (file 08 gives it): the callers' frames, abstract heap and state ahead of the call, the wish, the exception, the state -/
abbrev CXT := List Env → Hp → Shared → XK → Value → Shared → Prop

/-- the state at a call -/
structure Env0 (P : Program) (w : World) (K : PySem.W.Frag) (mg : Str → Option Value) (base : Heap) (A : Around) (outer : List Env) (s : Shared) (H : Hp) : Prop where
  frames : A.frames = some outer
  mod : Mod K mg base
  bs : ∀ b o, base.get? b = some o → s.heap.get? b = some o ∧ H b = none
  bsz : base.objs.size ≤ s.heap.objs.size
  funs : s.heap.FunFrames base outer
  frf : ∀ b ∈ frs outer, H b = none
  hok : HOk P w H s.heap
  bare : AllBare s.gens
/-- a call's end -/
def CE (outer : List Env) (P : Program) (w : World) (H : Hp) (s : Shared) (Q : VK) (u : Value) (s' : Shared) : Prop :=
  ∃ v H', s'.os = s.os ∧ AllBare s'.gens ∧ Un (frs outer) [] H H' s.heap s'.heap ∧ HOk P w H' s'.heap ∧ RelV v u ∧ Q v H'
def CR (CX : CXT) (outer : List Env) (P : Program) (w : World) (H : Hp) (s : Shared) (Q : VK) (E : XK) (r : Result) (s' : Shared) : Prop :=
  match r with
  | .ok (.ret u) => CE outer P w H s Q u s'
  | .ok _ => False
  | .error e => CX outer H s E e s'
structure FnOk (P : Program) (w : World) (K : PySem.W.Frag) (mg : Str → Option Value) (base : Heap) (CX : CXT) (k : Nat) (f : Addr) (fd : FuncData) (ps : List Str) (sp : Sp) : Prop where
  len : ∀ vs H Q E, sp vs H Q E → vs.length = ps.length
  run : ∀ (A : Around) (outer : List Env) (s : Shared) (H : Hp) (args : Args) (us : List Value) (vs : List V) (Q : VK) (E : XK), Room k A → Env0 P w K mg base A outer s H → BindsTo s fd args (ps.zip us) → Vals vs us → sp vs H Q E →
    codeAny (model P w) A (.call (.ref f) args) (CR CX outer P w H s Q E) s
theorem FnOk.mono {P : Program} {w : World} {K : PySem.W.Frag} {mg : Str → Option Value} {base : Heap} {CX : CXT} {j k : Nat} {f : Addr} {fd : FuncData} {ps : List Str} {sp : Sp} (F : FnOk P w K mg base CX j f fd ps sp) (h : j ≤ k) :
    FnOk P w K mg base CX k f fd ps sp := ⟨F.len, fun A outer s H args us vs Q E hr => F.run A outer s H args us vs Q E (hr.mono h)⟩
/-- a weaker promise -/
theorem FnOk.imp {P : Program} {w : World} {K : PySem.W.Frag} {mg : Str → Option Value} {base : Heap} {CX : CXT} {k : Nat} {f : Addr} {fd : FuncData} {ps : List Str} {sp sp' : Sp} (F : FnOk P w K mg base CX k f fd ps sp)
    (h : ∀ vs H Q E, sp' vs H Q E → sp vs H Q E) : FnOk P w K mg base CX k f fd ps sp' :=
  ⟨fun vs H Q E q => F.len vs H Q E (h _ _ _ _ q), fun A outer s H args us vs Q E hr he hb hv hs => F.run A outer s H args us vs Q E hr he hb hv (h _ _ _ _ hs)⟩

theorem Env0.make {P : Program} {w : World} {K : PySem.W.Frag} {mg : Str → Option Value} {base : Heap} {A : Around} {outer : List Env} {s : Shared} {H : Hp} (e : Env0 P w K mg base A outer s H) (C : Addr) (us : List Value) (kw : List (Str × Value)) :
    Env0 P w K mg base (A.under (.builtin "type.__call__" ⟨.ref C :: us, kw⟩)) outer s H := ⟨by first | exact e.frames | (simpa [Around.under, Code.envs, Code.isFrame, pushEnvs] using e.frames), e.mod, e.bs, e.bsz, e.funs, e.frf, e.hok, e.bare⟩
theorem Env0.in1 {P : Program} {w : World} {K : PySem.W.Frag} {mg : Str → Option Value} {base : Heap} {A : Around} {outer : List Env} {s : Shared} {H : Hp} (e : Env0 P w K mg base A outer s H) :
    Env0 P w K mg base A.in1 outer s H := ⟨e.frames, e.mod, e.bs, e.bsz, e.funs, e.frf, e.hok, e.bare⟩

section
variable {X : Cx} {pins : List (Addr × Obj)} {σ : St} {H : Hp} {s s' : Shared}
/-- from a body: what a callee wants -/
theorem Inv.env0 (I : Inv X pins σ H s) : Env0 X.prog X.w X.K X.mg X.base X.A X.stack s H :=
  ⟨I.ok.frames, I.ok.mod, I.bs, Nat.le_trans I.ok.bsz I.sz, I.stack, I.stkFree, I.hok, I.bare⟩
/-- behind a call -/
theorem Inv.after {Q : VK} {u : Value} (I : Inv X pins σ H s) (h : CE X.stack X.prog X.w H s Q u s') : EP X pins σ Q u s' := by
  obtain ⟨v, H', os, bare, un, hok, r, q⟩ := h
  obtain ⟨hh, g, d, t, os'⟩ := s'
  obtain rfl : os' = s.os := os
  exact ⟨v, H', I.call (h' := hh) (g' := g) (d' := d) (t' := t) (ch := []) un hok bare (fun b z => absurd z (by simp)), r, q⟩
end

/-! ### calls -/
/-- f(..): the written arguments, then the defaults dvs; E: what is wanted of an exception -/
def tCall (sp : Sp) (dvs : List V) (E : XK) (t : TA) : TE := fun σ H Q => t σ H fun vs H1 => sp (vs ++ dvs) H1 Q E
/-- o.m(..) of an instance of the class at C -/
def tMeth (C : Addr) (m : Str) (sp : Sp) (dvs : List V) (E : XK) (ta : TE) (t : TA) : TE := fun σ H Q => ta σ H fun x H1 => ∃ a dx fs, x = .ref a ∧ H1 a = some (.ins C dx fs) ∧ fs.lookup m = none ∧
  t σ H1 fun vs H2 => sp (x :: (vs ++ dvs)) H2 Q E
/-- C(..): a new instance and its dict, then __init__ -/
def tMake (C : Addr) (sp : Sp) (dvs : List V) (E : XK) (t : TA) : TE := fun σ H Q => t σ H fun vs H1 => ∀ x dx, H1 x = none → H1 dx = none → dx ≠ x →
  sp (.ref x :: (vs ++ dvs)) (upd (upd H1 dx (.own x)) x (.ins C dx [])) (fun v H2 => v = .non ∧ Q (.ref x) H2) E

/-- how the parameters are bound: us the positional arguments, kw the keywords' values by name, ds the defaults that fill up -/
def Binds (K : PySem.W.Frag) (fd : FuncData) (ps : List Str) (ds : List Value) : Prop :=
  ∀ (s : Shared) (us : List Value), K.In s.heap → (us ++ ds).length = ps.length → BindsTo s fd ⟨us, []⟩ (ps.zip (us ++ ds))
/-- every parameter is given -/
theorem Binds.all {K : PySem.W.Frag} {fd : FuncData} {ps : List Str} (h : ∀ us : List Value, us.length = ps.length → bindArgs fd ⟨us, []⟩ = pure (ps.zip us)) : Binds K fd ps [] := fun s us _ hl => by
  rw [List.append_nil] at hl ⊢
  exact .of_eq (h us hl)

/-- an exception of a callee reaches what this body wants of exceptions -/
def Passes (CX : CXT) (X : Cx) (E : XK) : Prop := ∀ (pins : List (Addr × Obj)) (σ : St) (H : Hp) (s : Shared) (e : Value) (s' : Shared), Inv X pins σ H s → CX X.stack H s E e s' → X.xe e s'

section
variable {X : Cx} {CX : CXT} {k : Nat} {f C : Addr} {fd : FuncData} {ps : List Str} {sp : Sp} {dvs : List V} {ds : List Value} {E : XK} {x m : Str} {p pos apos : Pos} {e o : Expr} {es : List Expr} {ta : TE} {t : TA}

/-- the callee runs -/
theorem run_fn {pins : List (Addr × Obj)} {σ : St} {H : Hp} {s : Shared} {Q : VK} {us : List Value} {vs : List V} (F : FnOk X.prog X.w X.K X.mg X.base CX k f fd ps sp) (hr : Room k X.A) (hb : Binds X.K fd ps ds) (hd : Vals dvs ds) (hx : Passes CX X E)
    (I : Inv X pins σ H s) (r : Vals vs us) (h : sp (vs ++ dvs) H Q E) : wpAny (model X.prog X.w) X.A (call (.ref f) us) (EP X pins σ Q) X.xe s := by
  have r2 : Vals (vs ++ dvs) (us ++ ds) := r.append hd
  have hl : (us ++ ds).length = ps.length := by rw [← r2.length]; exact F.len _ _ _ _ h
  refine wpAny_call (codeAny_mono (F.run X.A X.stack s H ⟨us, []⟩ (us ++ ds) (vs ++ dvs) Q E hr I.env0 (hb s us I.kIn hl) r2 h) fun r s' hq => ?_)
  cases r with
  | error e => exact hx pins σ H s e s' I hq
  | ok fl =>
    cases fl with
    | ret u => exact I.after hq
    | next => exact False.elim hq
    | brk => exact False.elim hq
    | cont => exact False.elim hq

theorem pe_call (F : FnOk X.prog X.w X.K X.mg X.base CX k f fd ps sp) (hr : Room k X.A) (hg : Gl X x) (hm : X.mg x = some (.ref f)) (hk : PySem.W.keepIn X.K (.ref f) = true) (hb : Binds X.K fd ps ds) (hd : Vals dvs ds) (hx : Passes CX X E)
    (ha : PA X (e :: es) t) (hdb : (x == ("__debug__" : Str)) = false := by decide) (he : starEach (e :: es) X.env = (false, eval e X.env) :: starEach es X.env := by rfl) (hpl : (backTo pos (starEach es X.env)).any (·.1) = false := by rfl) :
    PE X (.Call (.Name x p) (e :: es) [] pos) (tCall sp dvs E t) := by
  intro pins s σ H Q I h
  refine wpAny_Call_Name_kw (ld_glob I hg hm ?_ hdb)
  refine PySem.W.callWith_K (h₀ := X.base) I.ok.mod.kin hk (thn (ha pos pins s σ H _ I h) fun us s1 ⟨vs, H1, I1, r, q⟩ => ⟨I1.kIn, ?_⟩) he hpl
  exact run_fn F hr hb hd hx I1 r q
theorem pe_call0 (F : FnOk X.prog X.w X.K X.mg X.base CX k f fd ps sp) (hr : Room k X.A) (hg : Gl X x) (hm : X.mg x = some (.ref f)) (hk : PySem.W.keepIn X.K (.ref f) = true) (hb : Binds X.K fd ps ds) (hd : Vals dvs ds) (hx : Passes CX X E)
    (hdb : (x == ("__debug__" : Str)) = false := by decide) : PE X (.Call (.Name x p) [] [] pos) (tCall sp dvs E tNil) := by
  intro pins s σ H Q I h
  refine wpAny_Call_Name_kw (ld_glob I hg hm ?_ hdb)
  exact PySem.W.callWith_K0 I.kIn hk (run_fn (us := []) F hr hb hd hx I .nil h)

/-- o.m(e, ..) -/
theorem pe_meth {pl : Sem Bool} (he : PE X o ta) (c : Cls X.K C) (hm : Meth X.K C m f) (F : FnOk X.prog X.w X.K X.mg X.base CX k f fd ps sp) (hr : Room k X.A) (hb : Binds X.K fd ps ds) (hd : Vals dvs ds) (hx : Passes CX X E) (ha : PA X (e :: es) t)
    (hst : starEach (e :: es) X.env = (false, eval e X.env) :: starEach es X.env := by rfl) (hpl : (backTo pos (starEach es X.env)).any (·.1) = false := by rfl)
    (ht : eval (.Call (.Attribute o m apos) (e :: es) [] pos) X.env = (do
      let ov ← eval o X.env
      standAt apos.atName
      let (f, first) ← holding [ov] (getMethod ov m pl)
      callWith pos f first (backTo pos (starEach (e :: es) X.env)) (backToKw pos (keywordEach [] X.env))) := by rfl) :
    PE X (.Call (.Attribute o m apos) (e :: es) [] pos) (tMeth C m sp dvs E ta t) := by
  intro pins s σ H Q I h
  refine PySem.W.methodCall_KW (pl := pl) (thn (he pins s σ H _ I h) fun u s1 ⟨x, H1, I1, rx, a, dx, fs, ex, ea, l, q⟩ => ?_) ht
  subst ex
  obtain rfl : u = Value.ref a := rx
  refine getmeth_ok I1 ea c hm l ?_
  refine PySem.W.callWith_K (first := [.ref a]) (h₀ := X.base) I.ok.mod.kin hm.kp (thn (ha pos pins s1 σ H1 _ I1 q) fun us s2 ⟨vs, H2, I2, r, q2⟩ => ⟨I2.kIn, ?_⟩) hst hpl
  exact run_fn (us := .ref a :: us) (vs := .ref a :: vs) F hr hb hd hx I2 (.cons rfl r) q2
/-- o.m() -/
theorem pe_meth0 {pl : Sem Bool} (he : PE X o ta) (c : Cls X.K C) (hm : Meth X.K C m f) (F : FnOk X.prog X.w X.K X.mg X.base CX k f fd ps sp) (hr : Room k X.A) (hb : Binds X.K fd ps ds) (hd : Vals dvs ds) (hx : Passes CX X E)
    (ht : eval (.Call (.Attribute o m apos) [] [] pos) X.env = (do
      let ov ← eval o X.env
      standAt apos.atName
      let (f, first) ← holding [ov] (getMethod ov m pl)
      callWith pos f first (backTo pos (starEach [] X.env)) (backToKw pos (keywordEach [] X.env))) := by rfl) :
    PE X (.Call (.Attribute o m apos) [] [] pos) (tMeth C m sp dvs E ta tNil) := by
  intro pins s σ H Q I h
  refine PySem.W.methodCall_KW (pl := pl) (thn (he pins s σ H _ I h) fun u s1 ⟨x, H1, I1, rx, a, dx, fs, ex, ea, l, q⟩ => ?_) ht
  subst ex
  obtain rfl : u = Value.ref a := rx
  refine getmeth_ok I1 ea c hm l ?_
  exact PySem.W.callWith_K0 (first := [.ref a]) I1.kIn hm.kp (run_fn (us := [.ref a]) (vs := [.ref a]) F hr hb hd hx I1 (.cons rfl .nil) q)

/-- what a class must have to be made -/
structure Mk (K : PySem.W.Frag) (C f : Addr) : Prop where
  makes : PySem.W.makesIn K C = true
  init : PySem.W.findIn K (.ref C) "__init__" = some (some (.ref f))
  fn : PySem.W.isFn K (.ref f) = true
  kp : PySem.W.keepIn K (.ref C) = true

theorem run_make {pins : List (Addr × Obj)} {σ : St} {H : Hp} {s : Shared} {Q : VK} {us : List Value} {vs : List V} (M : Mk X.K C f) (F : FnOk X.prog X.w X.K X.mg X.base CX k f fd ps sp) (hr : Room (k + 1) X.A) (hb : Binds X.K fd ps ds) (hd : Vals dvs ds)
    (hx : Passes CX X E) (I : Inv X pins σ H s) (r : Vals vs us)
    (h : ∀ x dx, H x = none → H dx = none → dx ≠ x → sp (.ref x :: (vs ++ dvs)) (upd (upd H dx (.own x)) x (.ins C dx [])) (fun v H2 => v = .non ∧ Q (.ref x) H2) E) :
    wpAny (model X.prog X.w) X.A (call (.ref C) us) (EP X pins σ Q) X.xe s := by
  have hq := h (s.heap.objs.size + 1) s.heap.objs.size (I.hok.fresh (Nat.le_succ _)) (I.hok.fresh (Nat.le_refl _)) (Nat.ne_of_lt (Nat.lt_succ_self _))
  have I2 := Inv.made (C := C) I
  have r2 : Vals (V.ref (s.heap.objs.size + 1) :: (vs ++ dvs)) (Value.ref (s.heap.objs.size + 1) :: (us ++ ds)) := .cons rfl (r.append hd)
  have hl : (Value.ref (s.heap.objs.size + 1) :: us ++ ds).length = ps.length := by
    have e := r2.length
    rw [F.len _ _ _ _ hq] at e
    exact e.symm
  refine wpAny_call (make_map (f := f) I.kIn M.makes M.init (beq_iff_eq.mp M.fn) (codeAny_mono (F.run _ X.stack _ _ ⟨Value.ref (s.heap.objs.size + 1) :: us, []⟩ (Value.ref (s.heap.objs.size + 1) :: (us ++ ds)) _ _ E (hr.make C us [])
    (I2.env0.make C us []) (hb _ (Value.ref (s.heap.objs.size + 1) :: us) I2.kIn hl) r2 hq) fun r s' hq' => ?_))
  cases r with
  | error e => exact hx pins σ _ _ e s' I2 hq'
  | ok fl =>
    cases fl with
    | ret u =>
      obtain ⟨v, H', I3, rv, ev, q3⟩ := I2.after hq'
      subst ev
      exact ⟨rv, ⟨V.ref (s.heap.objs.size + 1), H', I3, rfl, q3⟩⟩
    | next => exact False.elim hq'
    | brk => exact False.elim hq'
    | cont => exact False.elim hq'
theorem pe_make (M : Mk X.K C f) (F : FnOk X.prog X.w X.K X.mg X.base CX k f fd ps sp) (hr : Room (k + 1) X.A) (hg : Gl X x) (hm : X.mg x = some (.ref C)) (hb : Binds X.K fd ps ds) (hd : Vals dvs ds) (hx : Passes CX X E)
    (ha : PA X (e :: es) t) (hdb : (x == ("__debug__" : Str)) = false := by decide) (he : starEach (e :: es) X.env = (false, eval e X.env) :: starEach es X.env := by rfl) (hpl : (backTo pos (starEach es X.env)).any (·.1) = false := by rfl) :
    PE X (.Call (.Name x p) (e :: es) [] pos) (tMake C sp dvs E t) := by
  intro pins s σ H Q I h
  refine wpAny_Call_Name_kw (ld_glob I hg hm ?_ hdb)
  refine PySem.W.callWith_K (h₀ := X.base) I.ok.mod.kin M.kp (thn (ha pos pins s σ H _ I h) fun us s1 ⟨vs, H1, I1, r, q⟩ => ⟨I1.kIn, ?_⟩) he hpl
  exact run_make M F hr hb hd hx I1 r q
theorem pe_make0 (M : Mk X.K C f) (F : FnOk X.prog X.w X.K X.mg X.base CX k f fd ps sp) (hr : Room (k + 1) X.A) (hg : Gl X x) (hm : X.mg x = some (.ref C)) (hb : Binds X.K fd ps ds) (hd : Vals dvs ds) (hx : Passes CX X E)
    (hdb : (x == ("__debug__" : Str)) = false := by decide) : PE X (.Call (.Name x p) [] [] pos) (tMake C sp dvs E tNil) := by
  intro pins s σ H Q I h
  refine wpAny_Call_Name_kw (ld_glob I hg hm ?_ hdb)
  exact PySem.W.callWith_K0 I.kIn M.kp (run_make (us := []) M F hr hb hd hx I .nil h)
end

/-! ### keywords -/
/-- the values of the keywords, from the left -/
def PK (X : Cx) (kws : List Keyword) (t : TA) : Prop :=
  ∀ (pos : Pos) (pins : List (Addr × Obj)) (s : Shared) (σ : St) (H : Hp) (Q : List V → Hp → Prop), Inv X pins σ H s → t σ H Q → wpAny (model X.prog X.w) X.A (evalAll ((backToKw pos (keywordEach kws X.env)).map (·.2))) (AP X pins σ Q) X.xe s
section
variable {X : Cx} {CX : CXT} {k : Nat} {f C : Addr} {fd : FuncData} {ps ks : List Str} {sp : Sp} {E : XK} {x m : Str} {p pos apos kpos : Pos} {e o : Expr} {es : List Expr} {kws : List Keyword} {te ta : TE} {t tk : TA} {nm : Option Str}
theorem pk_nil : PK X [] tNil := fun _ _ _ _ H Q I h => wpAny_evalAll_nil ⟨[], H, I, .nil, h⟩
theorem pk_cons (ha : PE X e te) (hr : PK X kws t) : PK X (⟨nm, e, kpos⟩ :: kws) (tCons te t) := by
  intro pos pins s σ H Q I h
  show wpAny _ _ (evalAll ((do let v ← eval e X.env; standAt pos; pure v) :: (backToKw pos (keywordEach kws X.env)).map (·.2))) _ _ s
  refine wpAny_evalAll_cons (wpAny_bind (thn (ha pins s σ H _ I h) fun u s1 ⟨x, H1, I1, r1, q1⟩ => wpAny_bind (wpAny_standAt (wpAny_pure ?_))))
  exact thn (hr pos pins s1 σ H1 _ I1 q1) fun us s2 ⟨xs, H2, I2, r2, q2⟩ => ⟨x :: xs, H2, I2, .cons r1 r2, q2⟩

/-- how a call with keywords binds: g puts the positional values us and the keywords' values ws (names ks) in the parameters' order, defaults among them -/
structure KBinds (K : PySem.W.Frag) (fd : FuncData) (ps ks : List Str) (g : List Value → List Value → List Value) (gV : List V → List V → List V) : Prop where
  to : ∀ (s : Shared) (us ws : List Value), K.In s.heap → (g us ws).length = ps.length → BindsTo s fd ⟨us, ks.zip ws⟩ (ps.zip (g us ws))
  rel : ∀ {vs : List V} {us : List Value} {zs : List V} {ws : List Value}, Vals vs us → Vals zs ws → Vals (gV vs zs) (g us ws)
def tCallK (sp : Sp) (gV : List V → List V → List V) (E : XK) (t tk : TA) : TE := fun σ H Q => t σ H fun vs H1 => tk σ H1 fun zs H2 => sp (gV vs zs) H2 Q E
variable {g : List Value → List Value → List Value} {gV : List V → List V → List V}
theorem run_fnk {pins : List (Addr × Obj)} {σ : St} {H : Hp} {s : Shared} {Q : VK} {us ws : List Value} {vs zs : List V} (F : FnOk X.prog X.w X.K X.mg X.base CX k f fd ps sp) (hr : Room k X.A) (hb : KBinds X.K fd ps ks g gV) (hx : Passes CX X E)
    (I : Inv X pins σ H s) (r : Vals vs us) (rz : Vals zs ws) (h : sp (gV vs zs) H Q E) : wpAny (model X.prog X.w) X.A (call (.ref f) us (ks.zip ws)) (EP X pins σ Q) X.xe s := by
  have r2 := hb.rel r rz
  have hl : (g us ws).length = ps.length := by rw [← r2.length]; exact F.len _ _ _ _ h
  refine wpAny_call (codeAny_mono (F.run X.A X.stack s H ⟨us, ks.zip ws⟩ (g us ws) (gV vs zs) Q E hr I.env0 (hb.to s us ws I.kIn hl) r2 h) fun r s' hq => ?_)
  cases r with
  | error e => exact hx pins σ H s e s' I hq
  | ok fl =>
    cases fl with
    | ret u => exact I.after hq
    | next => exact False.elim hq
    | brk => exact False.elim hq
    | cont => exact False.elim hq
/-- f(e, .., k = v, ..) -/
theorem pe_callK (F : FnOk X.prog X.w X.K X.mg X.base CX k f fd ps sp) (hr : Room k X.A) (hg : Gl X x) (hm : X.mg x = some (.ref f)) (hk : PySem.W.keepIn X.K (.ref f) = true) (hb : KBinds X.K fd ps ks g gV) (hx : Passes CX X E)
    (ha : PA X (e :: es) t) (hkw : PK X kws tk) (hall : (backToKw pos (keywordEach kws X.env)).all (·.1.isSome) = true := by rfl) (hks : (backToKw pos (keywordEach kws X.env)).filterMap (·.1) = ks := by rfl)
    (hdb : (x == ("__debug__" : Str)) = false := by decide) (he : starEach (e :: es) X.env = (false, eval e X.env) :: starEach es X.env := by rfl)
    (hpl : ((backTo pos (starEach (e :: es) X.env)).any (·.1) || (backToKw pos (keywordEach kws X.env)).any (·.1.isNone)) = false := by rfl) :
    PE X (.Call (.Name x p) (e :: es) kws pos) (tCallK sp gV E t tk) := by
  intro pins s σ H Q I h
  refine wpAny_Call_Name_kw (ld_glob I hg hm ?_ hdb)
  refine PySem.W.callWith_KW (h₀ := X.base) I.ok.mod.kin hk hall (thn (ha pos pins s σ H _ I h) fun us s1 ⟨vs, H1, I1, r, q⟩ => ?_) hpl he
  refine thn (hkw pos pins s1 σ H1 _ I1 q) fun ws s2 ⟨zs, H2, I2, rz, q2⟩ => ⟨I2.kIn, ?_⟩
  rw [hks]
  exact run_fnk F hr hb hx I2 r rz q2
end

/-! ### a def's body keeps its promise -/
/-- names: the parameters first -/
structure FnScope (N P : List Str) (sc : Scope) : Prop where
  kind : sc.kind = .function
  co : sc.isCoroutine = false
  gen : sc.isGenerator = false
  nd : N.Nodup
  pre : N.take P.length = P
  par : ∀ x ∈ P, sc.names.lookup x = some .local ∨ sc.names.lookup x = some .cell
  nofree : ∀ y ∈ sc.names, y.2 ≠ .free

theorem bindL_out {kindOf : Str → Option NameKind} {x : Str} : ∀ {binds : List (Str × Value)} {m : Str → Option Value}, (∀ v, (x, v) ∉ binds) → bindL kindOf binds m x = m x
  | [], _, _ => rfl
  | (n, v) :: r, m, h => by
    unfold bindL
    rw [bindL_out fun w hw => h w (List.mem_cons_of_mem _ hw)]
    split
    · have : x ≠ n := by rintro rfl; exact h v List.mem_cons_self
      simp [this]
    · rfl
theorem bindC_out {kindOf : Str → Option NameKind} {x : Str} : ∀ {binds : List (Str × Value)} {m : Str → Option Value}, (∀ v, (x, v) ∉ binds) → bindC kindOf binds m x = m x
  | [], _, _ => rfl
  | (n, v) :: r, m, h => by
    unfold bindC
    rw [bindC_out fun w hw => h w (List.mem_cons_of_mem _ hw)]
    split
    · rfl
    · have : x ≠ n := by rintro rfl; exact h v List.mem_cons_self
      simp [this]
theorem bindL_get {kindOf : Str → Option NameKind} {x : Str} {v : Value} : ∀ {P : List Str} {vs : List Value} {i : Nat} {m : Str → Option Value}, P.Nodup → P[i]? = some x → vs[i]? = some v → kindOf x = some .local →
    bindL kindOf (P.zip vs) m x = some v
  | [], _, _, _, _, h, _, _ => by simp at h
  | _ :: _, [], _, _, _, _, h, _ => by simp at h
  | p :: P, w :: vs, 0, m, nd, h1, h2, hk => by
    simp at h1 h2; subst h1; subst h2
    show bindL kindOf ((p, w) :: P.zip vs) m p = _
    unfold bindL
    rw [bindL_out fun v hv => (List.nodup_cons.mp nd).1 (List.of_mem_zip hv).1, if_pos hk]
    simp
  | p :: P, w :: vs, i + 1, m, nd, h1, h2, hk => by
    show bindL kindOf ((p, w) :: P.zip vs) m x = _
    unfold bindL
    exact bindL_get (i := i) (List.nodup_cons.mp nd).2 (by simpa using h1) (by simpa using h2) hk
theorem bindC_get {kindOf : Str → Option NameKind} {x : Str} {v : Value} : ∀ {P : List Str} {vs : List Value} {i : Nat} {m : Str → Option Value}, P.Nodup → P[i]? = some x → vs[i]? = some v → kindOf x ≠ some .local →
    bindC kindOf (P.zip vs) m x = some v
  | [], _, _, _, _, h, _, _ => by simp at h
  | _ :: _, [], _, _, _, _, h, _ => by simp at h
  | p :: P, w :: vs, 0, m, nd, h1, h2, hk => by
    simp at h1 h2; subst h1; subst h2
    show bindC kindOf ((p, w) :: P.zip vs) m p = _
    unfold bindC
    rw [bindC_out fun v hv => (List.nodup_cons.mp nd).1 (List.of_mem_zip hv).1, if_neg hk]
    simp
  | p :: P, w :: vs, i + 1, m, nd, h1, h2, hk => by
    show bindC kindOf ((p, w) :: P.zip vs) m x = _
    unfold bindC
    exact bindC_get (i := i) (List.nodup_cons.mp nd).2 (by simpa using h1) (by simpa using h2) hk

/-- the names' values at the entry -/
def start (N : List Str) (vs : List V) : St := vs.map some ++ List.replicate (N.length - vs.length) none

/-- the context of a def's body, at its entry; an exception leaves the frame, then lies as CX says -/
def cxOf (CX : CXT) (P : Program) (w : World) (K : PySem.W.Frag) (mg : Str → Option Value) (base : Heap) (N : List Str) (qual : Str) (scope : Scope) (f : Addr) (cd : Value) (A : Around) (outer : List Env) (s : Shared) (H : Hp) (E : XK) : Cx where
  prog := P
  w := w
  K := K
  mg := mg
  base := base
  A := A.deeper (envOfC qual scope s.heap.objs.size f cd)
  N := N
  s₀ := s
  H₀ := H
  env := envOfC qual scope s.heap.objs.size f cd
  outer := outer
  stack := envOfC qual scope s.heap.objs.size f cd :: outer
  ex := []
  calm := true
  fn := fun _ => true
  pn := []
  xe := fun e s' => wpAny (model P w) (A.deeper (envOfC qual scope s.heap.objs.size f cd)) (leaving (envOfC qual scope s.heap.objs.size f cd) e) (fun _ s'' => CX outer H s E e s'') (fun e' s'' => CX outer H s E e' s'') s'

theorem cell_has {sc : Scope} {n : Nat} {x : Str} (h : sc.names.lookup x = some .cell) : ∃ c, (cellsFrom n sc.names []).lookup x = some c := by
  have q := PySem.W.cellsFrom_some sc.names n [] (.inl h)
  exact Option.isSome_iff_exists.mp q

theorem inv_start {CX : CXT} {P : Program} {w : World} {K : PySem.W.Frag} {mg : Str → Option Value} {base : Heap} {N ps : List Str} {qual : Str} {scope : Scope} {f : Addr} {cd : Value} {A : Around} {outer : List Env} {s s1 : Shared} {H : Hp} {E : XK} {us : List Value} {vs : List V}
    (S : FnScope N ps scope) (hd : A.handled = none) (e0 : Env0 P w K mg base A outer s H) (hl : vs.length = ps.length) (r : Vals vs us)
    (x : InCallC s s.heap.objs.size (bindL (envOfC qual scope s.heap.objs.size f cd).kindOf (ps.zip us) fun _ => none) (cellsFrom (s.heap.objs.size + 1) scope.names []) (bindC (envOfC qual scope s.heap.objs.size f cd).kindOf (ps.zip us) fun _ => none) s1) :
    Inv (cxOf CX P w K mg base N qual scope f cd A outer s H E) [] (start N vs) H s1 := by
  have hpl : ps.length ≤ N.length := by have := congrArg List.length S.pre; rw [List.length_take] at this; omega
  obtain ⟨h1, tk, rfl, hk⟩ := x.done
  have noA : ∀ b : Addr, b ∉ (cxOf CX P w K mg base N qual scope f cd A outer s H E).ex := fun b z => absurd (show b ∈ ([] : List Addr) from z) (by simp)
  refine ⟨⟨e0.mod, S.kind, rfl, rfl, Nat.le_refl _, fun y z c h1 h2 => ?_, fun y hy => ?_, fun y c _ h => ?_, fun _ => hd, Around.frames_deeper e0.frames, .inr ⟨rfl, rfl⟩, fun b z => absurd z (noA b), e0.bs, e0.bsz, fun b _ _ => noA b, fun b z => absurd z (noA b), e0.funs, e0.frf⟩,
    rfl, e0.bare, Un.kept hk, ⟨_, x.toInCall.ns, fun i y v h1 h2 h3 => ?_⟩, fun y c h => ⟨_, x.cell y c h⟩, e0.hok.fresh (Nat.le_refl _), fun y c h => ?_, fun p hp => absurd (show p ∈ ([] : List (Addr × Obj)) from hp) (by simp), e0.hok.kept hk, ?_⟩
  · exact name_of_addr x.apart (PySem.mem_of_lookup h1) (PySem.mem_of_lookup h2)
  · have hy : scope.names.lookup y = some .cell ∨ scope.names.lookup y = some .free := hy
    rcases hy with hy | hy
    · exact cell_has hy
    · exact absurd rfl (S.nofree _ (PySem.mem_of_lookup hy))
  · exact Nat.le_of_lt (x.above y c (PySem.mem_of_lookup h))
  · have hi : i < vs.length := by
      unfold start at h2
      by_cases hi : i < vs.length
      · exact hi
      · rw [List.getElem?_append_right (by simpa using hi)] at h2
        rw [List.getElem?_replicate] at h2
        split at h2 <;> cases h2
    have ha : vs[i]? = some v := by
      unfold start at h2
      rw [List.getElem?_append_left (by simpa using hi), List.getElem?_map] at h2
      cases e : vs[i]? with
      | none => rw [e] at h2; cases h2
      | some a => rw [e] at h2; cases h2; rfl
    obtain ⟨u, hu, rv⟩ := r.get ha
    have hp : ps[i]? = some y := by
      rw [← S.pre, List.getElem?_take_of_lt (by omega)]; exact h1
    have ndP : ps.Nodup := by rw [← S.pre]; exact S.nd.sublist (List.take_sublist _ _)
    refine ⟨u, rv, ?_⟩
    rcases S.par y (List.mem_of_getElem? hp) with k | k
    · exact .inl ⟨k, bindL_get ndP hp hu k⟩
    · obtain ⟨c, e⟩ := cell_has (n := s.heap.objs.size + 1) k
      refine .inr ⟨.inl k, c, e, ?_⟩
      have q := x.cell y c e
      rw [bindC_get ndP hp hu (by show scope.names.lookup y ≠ _; rw [k]; decide)] at q
      exact q
  · exact e0.hok.fresh (Nat.le_of_lt (x.above y c (PySem.mem_of_lookup h)))
  · unfold start
    show _ = N.length
    rw [List.length_append, List.length_map, List.length_replicate]
    omega

/-- THE RULE: a def (or a method) of the text, by its body. The body's reading t is chosen for each entry; it is run at the parameters' values -/
theorem fn_of {CX : CXT} {P : Program} {w : World} {K : PySem.W.Frag} {mg : Str → Option Value} {base : Heap} {k : Nat} {f : Addr} {name qual : Str} {params : Arguments} {body : List Stmt} {scope : Scope} {dV kV doc pm cdv ct oc : Value} {an od : Option Addr}
    {osl : Array (Option Value)} {N ps : List Str} {sp : Sp} (lk : K.lookup f = some ⟨oc, od, .func (PySem.W.fnOf name qual params body scope dV kV doc pm an cdv ct), osl⟩) (hcd : PySem.W.codeIn K cdv qual = true) (S : FnScope N ps scope)
    (len : ∀ vs H Q E, sp vs H Q E → vs.length = ps.length)
    (hbody : ∀ (A : Around) (outer : List Env) (s : Shared) (H : Hp) (vs : List V) (Q : VK) (E : XK), Room k (A.deeper (envOfC qual scope s.heap.objs.size f cdv)) → sp vs H Q E →
      ∃ t, PSs (cxOf CX P w K mg base N qual scope f cdv A outer s H E) body t ∧ t { nx := fun _ H' => Q .non H', rt := Q } (start N vs) H) :
    FnOk P w K mg base CX (k + 1) f (PySem.W.fnOf name qual params body scope dV kV doc pm an cdv ct) ps sp := by
  refine ⟨len, fun A outer s H args us vs Q E hr e0 hb r hsp => ?_⟩
  have hl := len _ _ _ _ hsp
  have KX : K.In s.heap := e0.mod.kin.keeps fun b o e => (e0.bs b o e).1
  have lim : s.heap.NoLimit := e0.mod.nolimit.keeps fun b o e => (e0.bs b o e).1
  have hkind : ∀ y ∈ ps.zip us, scope.names.lookup y.1 = some .local ∨ (scope.names.lookup y.1 = some .cell ∧ ((cellsFrom (s.heap.objs.size + 1) scope.names []).lookup y.1).isSome = true) := fun ⟨n, v⟩ hy => by
    rcases S.par n (List.of_mem_zip hy).1 with q | q
    · exact .inl q
    · exact .inr ⟨q, PySem.W.cellsFrom_some _ _ _ (.inl q)⟩
  refine codeAny_call_function hr.depth (KX _ _ lk) rfl S.co S.gen rfl (PySem.W.codeRec_of KX hcd) (hb _ _ _ _ ?_)
  refine wpAny_newFunctionEnv_cells S.kind hkind fun env he s1 x => ?_
  subst he
  refine ⟨lim.keeps x.toInCall.keep, codeAny_func ?_⟩
  obtain ⟨t, ht, hq⟩ := hbody A outer s H vs Q E (hr.deeper _) hsp
  have I : Inv (cxOf CX P w K mg base N qual scope f cdv A outer s H E) [] (start N vs) H s1 := inv_start S hr.hd e0 hl r x
  refine wpAny_mono (ht [] s1 (start N vs) H _ I hq) (fun fl s' hs => ?_) fun e s' hs => hs
  have fin : ∀ {σ' : St} {H' : Hp} {v : V} {u : Value}, Inv (cxOf CX P w K mg base N qual scope f cdv A outer s H E) [] σ' H' s' → RelV v u → Q v H' → CE outer P w H s Q u s' :=
    fun {σ' H' v u} J rv q => ⟨v, H', J.os, J.bare, J.base, J.hok, rv, q⟩
  cases fl with
  | ret u =>
    obtain ⟨v, σ', H', J, rv, q⟩ := hs
    exact fin J rv q
  | next =>
    obtain ⟨σ', H', J, q⟩ := hs
    exact fin (v := V.non) (u := Value.none) J rfl q
  | brk =>
    obtain ⟨_, _, _, q⟩ := hs
    exact False.elim q
  | cont =>
    obtain ⟨_, _, _, q⟩ := hs
    exact False.elim q
end L2

namespace L2
open PySem PySem.Spec PyProof.Rows
section
variable {X : Cx} {x : Str} {p pos : Pos} {e : Expr} {es : List Expr} {t : TA} {id T : String} {r : List V → Hp → VK → Prop}

def tCB (r : List V → Hp → VK → Prop) (t : TA) : TE := fun σ H Q => t σ H fun vs H1 => r vs H1 Q
/-- f(e, ..), f a built-in function -/
theorem pe_callB (hc : CallR X (.builtin id) r) (hg : Gl X x) (hm : X.mg x = none) (hv : bootBuiltins x = some (.builtin id)) (ha : PA X (e :: es) t) (hn : x ≠ "__name__" := by decide) (hdb : (x == ("__debug__" : Str)) = false := by decide)
    (he : starEach (e :: es) X.env = (false, eval e X.env) :: starEach es X.env := by rfl) (hpl : (backTo pos (starEach es X.env)).any (·.1) = false := by rfl) : PE X (.Call (.Name x p) (e :: es) [] pos) (tCB r t) := by
  intro pins s σ H Q I h
  refine wpAny_Call_Name_kw (ld_blt I hg hm hv ?_ hn hdb)
  exact PyProof.Rows.callWith_builtin1 (thn (ha pos pins s σ H _ I h) fun us s1 ⟨vs, H1, I1, r1, q1⟩ => hc pins s1 σ H1 vs us Q I1 r1 q1) he hpl
/-- T(e, ..), T a built-in type -/
theorem pe_callTy (hc : CallR X (.type T) r) (hg : Gl X x) (hm : X.mg x = none) (hv : bootBuiltins x = some (.type T)) (ha : PA X (e :: es) t) (hn : x ≠ "__name__" := by decide) (hdb : (x == ("__debug__" : Str)) = false := by decide)
    (he : starEach (e :: es) X.env = (false, eval e X.env) :: starEach es X.env := by rfl) (hpl : (backTo pos (starEach es X.env)).any (·.1) = false := by rfl) : PE X (.Call (.Name x p) (e :: es) [] pos) (tCB r t) := by
  intro pins s σ H Q I h
  refine wpAny_Call_Name_kw (ld_blt I hg hm hv ?_ hn hdb)
  exact PyProof.Rows.callWith_type1 (thn (ha pos pins s σ H _ I h) fun us s1 ⟨vs, H1, I1, r1, q1⟩ => hc pins s1 σ H1 vs us Q I1 r1 q1) he hpl
/-- T() -/
theorem pe_callTy0 (hc : CallR X (.type T) r) (hg : Gl X x) (hm : X.mg x = none) (hv : bootBuiltins x = some (.type T)) (hn : x ≠ "__name__" := by decide) (hdb : (x == ("__debug__" : Str)) = false := by decide) :
    PE X (.Call (.Name x p) [] [] pos) (tCB r tNil) := by
  intro pins s σ H Q I h
  refine wpAny_Call_Name_kw (ld_blt I hg hm hv ?_ hn hdb)
  exact PyProof.Rows.callWith_type0 (hc pins s σ H [] [] Q I .nil h)
end
end L2

namespace HT
open PySem PyProof.Rows

/-- t < u of tuples of ints -/
def lexLt : List Int → List Int → Bool
  | [], [] => false
  | [], _ :: _ => true
  | _ :: _, [] => false
  | x :: xs, y :: ys => if x = y then lexLt xs ys else decide (x < y)
theorem lexLt_cons (x y : Int) (xs ys : List Int) : lexLt (x :: xs) (y :: ys) = if x = y then lexLt xs ys else decide (x < y) := rfl
theorem lexLt_nil_nil : lexLt [] [] = false := rfl
theorem lexLt_nil_cons (y : Int) (ys : List Int) : lexLt [] (y :: ys) = true := rfl
theorem lexLt_cons_nil (x : Int) (xs : List Int) : lexLt (x :: xs) [] = false := rfl

theorem eqAt_int (A : Around) (s : Shared) (a : Int) (t : Tok) (c : Int) (u : Tok) : ∃ e, SeqAt.EqAt A s (.int a t) (.int c u) e ∧ (e = true ↔ a = c) :=
  ⟨(a == c), SeqAt.EqAt.int_int a t c u, by simp⟩
theorem rcLt_int (A : Around) (s : Shared) (a : Int) (t : Tok) (c : Int) (u : Tok) (prog : Program) (w : World) (E : Value → Shared → Prop) (Q : Value → Shared → Prop) (h : Q (.bool (decide (a < c))) s) :
    wpAny (model prog w) A (richCompare .Lt (.int a t) (.int c u)) Q E s :=
  (PyProof.Rows.lt_int h : wpAny (model prog w) A (compareOp .Lt (.int a t) (.int c u)) Q E s)

section
open PySem.SeqAt
open PySem.AutoSeq1 (wpAny_loadPart')
open PySem.MeetsSeq PySem.MeetsSeq2 PySem.MeetsSeq3

theorem tuple_lt_ints (l b : Addr) (items items2 : Array Value) (n n2 : Nat) (dd dd2 : Option Addr) (sl sl2 : Array (Option Value)) (ns ms : List Int) (hi : IntsAre items.toList ns) (hj : IntsAre items2.toList ms) :
    Meets (Builtin.«tuple.__lt__» ⟨[.ref l, .ref b], []⟩)
      (fun _ R s => s.heap.get? l = some { cls := .type "tuple", dict := dd, data := .seq items n, slots := sl } ∧ s.heap.get? b = some { cls := .type "tuple", dict := dd2, data := .seq items2 n2, slots := sl2 } ∧
        R (.ok (.ret (.bool (lexLt ns ms)))) s) :=
  .of_wp fun prog w A R s h => by
    obtain ⟨hp, g, d, tk, os⟩ := s; obtain ⟨hl, hb, h⟩ := h
    have f2 := AutoSeq1.sub_tuple_tuple
    have z1 : items.size = ns.length := by rw [← hi.length]; simp
    have z2 : items2.size = ms.length := by rw [← hj.length]; simp
    wp_walk using wpAny_loadPart' hl, wpAny_loadPart' hb, wpAny_forIn_list _ (fun rest b s' => b.1 = none ∧ s' = ⟨hp, g, d, tk, os⟩ ∧ ∃ (vs ws : List Value) (ns' ms' : List Int), rest = vs.zip ws ∧
      IntsAre vs ns' ∧ IntsAre ws ms' ∧ ns'.length + items2.size = ms'.length + items.size ∧ R (.ok (.ret (.bool (lexLt ns' ms')))) ⟨hp, g, d, tk, os⟩) _
    case turn =>
      rintro ⟨y, x⟩ rest b s' ⟨hb', rfl, vs, ws, ns', ms', hz, hvi, hwi, hlen, hR⟩
      cases hvi with
      | nil => rw [List.zip_nil_left] at hz; cases hz
      | cons a t hvi' =>
        cases hwi with
        | nil => rw [List.zip_nil_right] at hz; cases hz
        | cons c u hwi' =>
          rw [List.zip_cons_cons] at hz
          injection hz with hyx hrest
          injection hyx with hy hx
          subst hy hx
          rw [lexLt_cons] at hR
          simp only [List.length_cons] at hlen
          obtain ⟨e, he, hiff⟩ := eqAt_int A.in1 ⟨hp, g, d, tk, os⟩ a t c u
          refine wpAny_bind (he prog w _ _ ?_)
          cases e with
          | true =>
            rw [if_pos (hiff.mp rfl)] at hR
            wp_walk
            exact ⟨rfl, rfl, _, _, _, _, hrest, hvi', hwi', by omega, hR⟩
          | false =>
            rw [if_neg (fun q => absurd (hiff.mpr q) Bool.false_ne_true)] at hR
            have hri := rcLt_int A.in1 ⟨hp, g, d, tk, os⟩ a t c u prog w
            wp_walk using hri
            exact ⟨_, rfl, by simpa using hR⟩
    case fin =>
      rintro ⟨b1, b2⟩ s' ⟨hb', rfl, vs, ws, ns', ms', hz, hvi, hwi, hlen, hR⟩
      simp only at hb'
      subst hb'
      have hv : lexLt ns' ms' = decide (items.size < items2.size) := by
        cases hvi with
        | nil =>
          cases hwi with
          | nil =>
            simp only [List.length_nil] at hlen
            rw [lexLt_nil_nil]
            exact (decide_eq_false (by omega)).symm
          | cons c u hw =>
            simp only [List.length_nil, List.length_cons] at hlen
            rw [lexLt_nil_cons]
            exact (decide_eq_true (by omega)).symm
        | cons a t hv =>
          cases hwi with
          | nil =>
            simp only [List.length_nil, List.length_cons] at hlen
            rw [lexLt_cons_nil]
            exact (decide_eq_false (by omega)).symm
          | cons c u hw =>
            rw [List.zip_cons_cons] at hz
            cases hz
      rw [hv] at hR
      wp_walk
      exact ⟨_, rfl, by simpa [Builtin.Tuple.tupleCompareSizes] using hR⟩
    case h =>
      exact ⟨rfl, rfl, items.toList, items2.toList, ns, ms, rfl, hi, hj, by omega, h⟩
end

section
variable {prog : Program} {w : World} {A : Around} {E : Value → Shared → Prop} {s : Shared}

theorem lt_tupInts {l b : Addr} {items items2 : Array Value} {ns ms : List Int} {Q : Value → Shared → Prop} (hl : IsTup s.heap l items) (hb : IsTup s.heap b items2) (hi : IntsAre items.toList ns) (hj : IntsAre items2.toList ms)
    (hu : A.units < cLine) (h : Q (.bool (lexLt ns ms)) s) : wpAny (model prog w) A (compareOp .Lt (.ref l) (.ref b)) Q E s := by
  obtain ⟨⟨cls, dd, data, sl⟩, ho, hc, n, hd⟩ := id hl
  obtain ⟨⟨cls2, dd2, data2, sl2⟩, ho2, hc2, n2, hd2⟩ := id hb
  simp only at hc hd hc2 hd2
  subst hc hd hc2 hd2
  exact richCompare_meets_room (op := .Lt) ⟨_, ho, rfl⟩ ⟨_, ho2, rfl⟩ PySem.F.slot_tuple_lt PySem.F.entry_tuple_lt (PySem.F.args_tuple_lt_2 _ _) (tuple_lt_ints l b items items2 n n2 dd dd2 sl sl2 ns ms hi hj)
    ⟨ho, ho2, show Value.bool (lexLt ns ms) ≠ Value.notImplemented ∧ Q (.bool (lexLt ns ms)) s from ⟨(fun x => nomatch x), h⟩⟩ hu

/-- t + u, t not empty -/
theorem cat_tup {t b : Addr} {vs ws : List Value} {Q : Value → Shared → Prop} (ht : IsTup s.heap t vs.toArray) (hb : IsTup s.heap b ws.toArray) (hv : vs ≠ [])
    (h1 : ws = [] → Q (.ref t) s) (h2 : ws ≠ [] → Q (.ref s.heap.objs.size) { s with heap := s.heap.push { cls := .type "tuple", data := .seq (vs ++ ws).toArray } })
    (hsz : vs.length + ws.length ≤ sizeLine) : wpAny (model prog w) A (binaryOp .Add (.ref t) (.ref b)) Q E s := by
  obtain ⟨⟨cls, dd, data, sl⟩, ho, hc, n, hd⟩ := id ht
  obtain ⟨⟨cls2, dd2, data2, sl2⟩, ho2, hc2, n2, hd2⟩ := id hb
  simp only at hc hd hc2 hd2
  subst hc hd hc2 hd2
  have e : vs.toArray ++ ws.toArray = (vs ++ ws).toArray := by simp
  by_cases hw : ws = []
  · exact concat_meets ⟨_, ho, rfl⟩ ⟨_, ho2, rfl⟩ noFill_tuple_add seq_tuple_add PySem.F.slot_tuple_add PySem.F.entry_tuple_add (PySem.F.args_tuple_add_2 _ _)
      (tuple_addW1 t b vs.toArray ws.toArray n n2 dd dd2 sl sl2 (by simpa using hv) (by simp [hw])) ⟨ho, ho2, h1 hw⟩
  · refine concat_meets ⟨_, ho, rfl⟩ ⟨_, ho2, rfl⟩ noFill_tuple_add seq_tuple_add PySem.F.slot_tuple_add PySem.F.entry_tuple_add (PySem.F.args_tuple_add_2 _ _)
      (tuple_addW2 t b vs.toArray ws.toArray n n2 dd dd2 sl sl2 (by simpa using hv) (by simpa using hw) (by rw [List.size_toArray, List.size_toArray]; exact hsz)) ⟨ho, ho2, ?_⟩
    rw [e]
    exact h2 hw

/-! ### t[a:b], not the whole -/
/-- a slice's bound as a place among n (d where it is left out) -/
def sIx (n d : Nat) : Option Int → Nat
  | none => d
  | some v => if v < 0 then (v + (n : Int)).toNat else min v.toNat n
theorem sIx_none (n d : Nat) : sIx n d none = d := rfl
theorem sIx_nat (n d k : Nat) : sIx n d (some (k : Int)) = min k n := by
  show (if (k : Int) < 0 then ((k : Int) + (n : Int)).toNat else min (k : Int).toNat n) = min k n
  rw [if_neg (by omega), Int.toNat_natCast]
theorem sIx_le (n d : Nat) (hd : d ≤ n) (o : Option Int) : sIx n d o ≤ n := by
  cases o with
  | none => exact hd
  | some v =>
    show (if v < 0 then (v + (n : Int)).toNat else min v.toNat n) ≤ n
    by_cases hv : v < 0
    · rw [if_pos hv]; omega
    · rw [if_neg hv]; exact Nat.min_le_right _ _
theorem clip_eq (v : Int) (n d : Nat) : (if v < 0 then max (v + (n : Int)) 0 else min v (n : Int)) = ((sIx n d (some v) : Nat) : Int) := by
  show (if v < 0 then max (v + (n : Int)) 0 else min v (n : Int)) = (((if v < 0 then (v + (n : Int)).toNat else min v.toNat n) : Nat) : Int)
  by_cases hv : v < 0
  · simp only [if_pos hv]; omega
  · simp only [if_neg hv]; omega
theorem adjust_gen (lo hi : Option Int) (n : Nat) : Builtin.Slice.sliceAdjust lo hi 1 (n : Int) = (((sIx n 0 lo : Nat) : Int), ((sIx n n hi : Nat) : Int)) := by
  have h1 : ¬ ((1 : Int) < 0) := by omega
  unfold Builtin.Slice.sliceAdjust
  simp only [h1, if_false]
  refine Prod.ext ?_ ?_
  · cases lo with
    | none => rfl
    | some v => exact clip_eq v n 0
  · cases hi with
    | none => rfl
    | some v => exact clip_eq v n n
theorem places_gen (i j : Nat) : Builtin.Slice.slicePlaces (i : Int) (j : Int) 1 = j - i := by
  unfold Builtin.Slice.slicePlaces
  have h1 : (1 : Int) > 0 := by omega
  simp only [h1, if_true, Int.ediv_one]
  split <;> omega
theorem slicePart_ {v : Value} {o : Option Int} {Q : Option Int → Shared → Prop} (p : IsPart v o) (h : Q o s) : wpAny (model prog w) A (Builtin.Slice.slicePartIndex v) Q E s := by
  cases p with
  | none => exact slicePart_none h
  | int i t => exact slicePart_int h
theorem sliceApplied_gen {sl : Addr} {vl vu : Value} {lo hi : Option Int} {n : Nat} {Q : Int × Int × Nat → Shared → Prop} (hs : s.heap.IsSliceOf sl vl vu .none) (pl : IsPart vl lo) (pu : IsPart vu hi)
    (h : Q (((sIx n 0 lo : Nat) : Int), 1, sIx n n hi - sIx n 0 lo) s) : wpAny (model prog w) A (Builtin.Slice.sliceApplied (.ref sl) (pure (n : Int))) Q E s := by
  obtain ⟨os, hos, hcs, hds⟩ := id hs
  unfold Builtin.Slice.sliceApplied Builtin.Slice.sliceFields
  refine wpAny_bind (wpAny_bind (wpAny_field hos hds (x := vl) rfl (wpAny_bind (wpAny_field hos hds (x := vu) rfl (wpAny_bind (wpAny_field hos hds (x := .none) rfl (wpAny_pure ?_)))))))
  refine wpAny_bind (slicePart_none ?_)
  show wpAny _ _ (if ((1 : Int) == 0) = true then _ else _) _ _ s
  rw [if_neg (by decide)]
  refine wpAny_bind (slicePart_ pl (wpAny_bind (slicePart_ pu (wpAny_bind (wpAny_pure ?_)))))
  show wpAny _ _ (match Builtin.Slice.sliceAdjust lo hi 1 (n : Int) with | (lo, hi) => pure (lo, (1 : Int), Builtin.Slice.slicePlaces lo hi 1)) _ _ s
  rw [adjust_gen lo hi n]
  show wpAny _ _ (pure (((sIx n 0 lo : Nat) : Int), (1 : Int), Builtin.Slice.slicePlaces ((sIx n 0 lo : Nat) : Int) ((sIx n n hi : Nat) : Int) 1)) _ _ s
  rw [places_gen]
  exact wpAny_pure h
theorem pick_gen (xs : Array Value) (i k : Nat) : ((List.range k).filterMap fun (m : Nat) => xs[((i : Int) + (m : Int) * 1).toNat]?).toArray = ((xs.toList.drop i).take k).toArray := by
  have e : (fun (m : Nat) => xs[((i : Int) + (m : Int) * 1).toNat]?) = fun m => xs[i + m]? := by
    funext m
    have : ((i : Int) + (m : Int) * 1).toNat = i + m := by omega
    rw [this]
  rw [e]
  have := pick_run xs i k
  rw [List.filterMap_map] at this
  have e2 : ((fun x => xs[x]?) ∘ fun x => i + x) = fun m => xs[i + m]? := rfl
  rw [e2] at this
  rw [this]

theorem getItem_tuple_cut {t sl : Addr} {items : Array Value} {vl vu : Value} {lo hi : Option Int} {Q : Value → Shared → Prop} (ht : IsTup s.heap t items) (hs : s.heap.IsSliceOf sl vl vu .none) (pl : IsPart vl lo) (pu : IsPart vu hi)
    (hw : ¬ (sIx items.size 0 lo = 0 ∧ sIx items.size items.size hi = items.size))
    (h : Q (.ref s.heap.objs.size) { s with heap := s.heap.push { cls := .type "tuple", data := .seq ((items.toList.drop (sIx items.size 0 lo)).take (sIx items.size items.size hi - sIx items.size 0 lo)).toArray } })
    (hsz : items.size ≤ sizeLine) : wpAny (model prog w) A (getItem (.ref t) (.ref sl)) Q E s := by
  have htake : sizeOk (.seq ((items.toList.drop (sIx items.size 0 lo)).take (sIx items.size items.size hi - sIx items.size 0 lo)).toArray) := by
    show ((items.toList.drop (sIx items.size 0 lo)).take (sIx items.size items.size hi - sIx items.size 0 lo)).toArray.size ≤ sizeLine
    rw [List.size_toArray, List.length_take, List.length_drop, Array.length_toList]
    omega
  have hj : sIx items.size items.size hi ≤ items.size := sIx_le _ _ (Nat.le_refl _) hi
  obtain ⟨os, hos, hcs, hds⟩ := id hs
  have hTs : s.TypeIs (.ref sl) "slice" := ⟨os, hos, hcs⟩
  unfold getItem
  try with_reducible refine wpAny_holding ?_
  first | refine wpAny_bind (wpAny_pure ?_) | skip
  refine wpAny_bind (wpAny_sequenceKey ht.typeIs (by decide) ?_)
  refine wpAny_bind (wpAny_callSpecial?_slot (name := Str.ofString "__getitem__") ht.typeIs PyProof.Rows.slot_tuple_getitem
    (wpAny_call_entry PyProof.Rows.slot_tuple_getitem ht.typeIs entry_tuple_getitem ?_ (args_tuple_getitem _ _)))
  show wpAny _ _ (Builtin.Tuple.tupleItemsOf (.ref t) >>= _) _ _ s
  refine wpAny_bind (tupleItemsOf_ ht ?_)
  refine wpAny_bind (wpAny_typeOf hTs ?_)
  rw [if_pos (by decide)]
  refine wpAny_bind (sliceApplied_gen hs pl pu ?_)
  have hno : ¬ ((((sIx items.size 0 lo : Nat) : Int) == 0 && (1 : Int) == 1 && (sIx items.size items.size hi - sIx items.size 0 lo) == items.size) = true) := by
    intro q
    rw [Bool.and_eq_true, Bool.and_eq_true] at q
    have q1 : ((sIx items.size 0 lo : Nat) : Int) = 0 := eq_of_beq q.1.1
    have q2 : sIx items.size items.size hi - sIx items.size 0 lo = items.size := eq_of_beq q.2
    exact hw ⟨by omega, by omega⟩
  show wpAny _ _ (if (((sIx items.size 0 lo : Nat) : Int) == 0 && (1 : Int) == 1 && (sIx items.size items.size hi - sIx items.size 0 lo) == items.size) = true then _ else _) _ _ s
  rw [if_neg hno, pick_gen]
  first
    | exact wpAny_bind (m := Builtin.Tuple.tupleExact _) (wpAny_newObj_type (wpAny_pure ⟨_, rfl, wpAny_pure h⟩) htake)
    | exact wpAny_bind (m := Builtin.Tuple.tupleExact _) (wpAny_newObj_type (wpAny_bind (wpAny_pure (wpAny_pure ⟨_, rfl, wpAny_pure h⟩))) htake)
    | exact wpAny_bind (wpAny_bind (m := Builtin.Tuple.tupleExact _) (wpAny_newObj_type (wpAny_pure (wpAny_pure ⟨_, rfl, wpAny_pure h⟩)) htake))
    | exact wpAny_bind (wpAny_bind (m := Builtin.Tuple.tupleExact _) (wpAny_newObj_type (wpAny_pure ⟨_, rfl, wpAny_pure h⟩) htake))
end
end HT

namespace L2
open PySem PySem.Spec PyProof.Rows

/-! ### the parts of a slice -/
abbrev TO := St → Hp → (Option Int → Hp → Prop) → Prop
/-- a slice's part (left out, or an int) -/
def PO (X : Cx) (e : Option Expr) (t : TO) : Prop :=
  ∀ (pins : List (Addr × Obj)) (s : Shared) (σ : St) (H : Hp) (Q : Option Int → Hp → Prop), Inv X pins σ H s → t σ H Q →
    wpAny (model X.prog X.w) X.A (evalPart e X.env) (fun u s' => ∃ o H', Inv X pins σ H' s' ∧ IsPart u o ∧ Q o H') X.xe s
def tNoPart : TO := fun _ H Q => Q none H
def tPart (t : TE) : TO := fun σ H Q => t σ H fun x H1 => ∃ i, x = .int i ∧ Q (some i) H1

theorem intsAre_of {ns : List Int} : ∀ {us : List Value}, Vals (ns.map V.int) us → IntsAre us ns := by
  induction ns with
  | nil => intro us r; rw [List.map_nil] at r; cases r; exact .nil
  | cons n ns ih =>
    intro us r
    rw [List.map_cons] at r
    cases r with
    | cons r1 r2 =>
      obtain ⟨t, e⟩ := r1
      subst e
      exact .cons n t (ih r2)

section
variable {X : Cx} {e : Expr} {te : TE} {lo hi : Option Expr} {tl th : TO} {pos p2 : Pos}

theorem po_none : PO X none tNoPart := by
  intro pins s σ H Q I h
  rw [evalPart_none]
  exact wpAny_pure ⟨none, H, I, .none, h⟩
theorem po_some (h : PE X e te) : PO X (some e) (tPart te) := by
  intro pins s σ H Q I hw
  rw [evalPart_some]
  refine thn (h pins s σ H _ I hw) fun u s1 ⟨x, H1, I1, r1, q1⟩ => ?_
  obtain ⟨i, rfl, q⟩ := q1
  obtain ⟨t, rfl⟩ := r1
  exact ⟨some i, H1, I1, .int i t, q⟩

/-- what a slice of a value is, by values: the slice object stands at sl -/
def SlR (X : Cx) (r : V → Option Int → Option Int → Hp → VK → Prop) : Prop :=
  ∀ (pins : List (Addr × Obj)) (s : Shared) (σ : St) (H : Hp) (x : V) (v vl vu : Value) (lo hi : Option Int) (sl : Addr) (Q : VK), Inv X pins σ H s → RelV x v → s.heap.IsSliceOf sl vl vu .none → IsPart vl lo → IsPart vu hi → r x lo hi H Q →
    ∃ T id, typeLookup (.type T) "__getitem__" = pure (some (.builtin id)) ∧ s.TypeIs v T ∧ wpAny (model X.prog X.w) X.A (getItem v (.ref sl)) (EP X pins σ Q) X.xe s
theorem SlR.or {r r' : V → Option Int → Option Int → Hp → VK → Prop} (h : SlR X r) (h' : SlR X r') : SlR X (fun x lo hi H Q => r x lo hi H Q ∨ r' x lo hi H Q) := by
  intro pins s σ H x v vl vu lo hi sl Q I rx hs pl pu q
  rcases q with q | q
  · exact h pins s σ H x v vl vu lo hi sl Q I rx hs pl pu q
  · exact h' pins s σ H x v vl vu lo hi sl Q I rx hs pl pu q
def tSl (r : V → Option Int → Option Int → Hp → VK → Prop) (te : TE) (tl th : TO) : TE := fun σ H Q => te σ H fun x H1 => tl σ H1 fun l H2 => th σ H2 fun u H3 => r x l u H3 Q
/-- a[lo:hi], any a -/
theorem pe_slice {r : V → Option Int → Option Int → Hp → VK → Prop} (hr : SlR X r) (he : PE X e te) (hl : PO X lo tl) (hu : PO X hi th) : PE X (.Subscript e (.Slice lo hi none p2) pos) (tSl r te tl th) := by
  intro pins s σ H Q I h
  refine Subscript_ (thn (he pins s σ H _ I h) fun v s1 ⟨x, H1, I1, r1, q1⟩ => ?_)
  refine wpAny_Slice (thn (hl pins s1 σ H1 _ I1 q1) fun vl s2 ⟨l, H2, I2, pl, q2⟩ => thn (hu pins s2 σ H2 _ I2 q2) fun vu s3 ⟨u, H3, I3, pu, q3⟩ => ?_)
  rw [evalPart_none]
  refine wpAny_pure ?_
  have I4 : Inv X pins σ H3 { s3 with heap := s3.heap.push { cls := .type "slice", data := .fields #[vl, vu, .none] } } := I3.kept (t' := s3.toks) fun b ob q => Heap.get?_push_of_some _ q
  obtain ⟨T, id, hT, ht, hg⟩ := hr pins { s3 with heap := s3.heap.push { cls := .type "slice", data := .fields #[vl, vu, .none] } } σ H3 x v vl vu l u s3.heap.objs.size Q I4 r1 (Heap.IsSliceOf.new ..) pl pu q3
  show wpAny (model X.prog X.w) X.A (subscriptTail e (.Slice lo hi none p2) v (.ref s3.heap.objs.size)) (EP X pins σ Q) X.xe { s3 with heap := s3.heap.push { cls := .type "slice", data := .fields #[vl, vu, .none] } }
  exact tail_any (ops := [.ref s3.heap.objs.size, v]) ht hT hg (by with_unfolding_all rfl)

/-- the items of xs[lo:hi] -/
def cutV (xs : List V) (lo hi : Option Int) : List V := (xs.drop (HT.sIx xs.length 0 lo)).take (HT.sIx xs.length xs.length hi - HT.sIx xs.length 0 lo)
theorem cutV_length (xs : List V) (lo hi : Option Int) : (cutV xs lo hi).length ≤ xs.length := by
  unfold cutV
  rw [List.length_take, List.length_drop]
  omega
/-- t[lo:hi], not the whole of it (the whole would be t itself) -/
def rSlT (K : PySem.W.Frag) : V → Option Int → Option Int → Hp → VK → Prop := fun x lo hi H Q => ∃ a xs, x = .ref a ∧ SqT K H a xs ∧
  ¬ (HT.sIx xs.length 0 lo = 0 ∧ HT.sIx xs.length xs.length hi = xs.length) ∧ ∀ p, H p = none → Q (.ref p) (upd H p (.tup (cutV xs lo hi)))
theorem sl_tup : SlR X (rSlT X.K) := by
  intro pins s σ H x v vl vu lo hi sl Q I rx hs pl pu h
  obtain ⟨a, xs, rfl, hx, hw, q⟩ := h
  cases rx
  obtain ⟨its, r, ht, hz⟩ := I.tuple hx
  have hlen : its.toArray.size = xs.length := by rw [List.size_toArray]; exact r.length.symm
  refine ⟨"tuple", _, PyProof.Rows.slot_tuple_getitem.lookup, ht.typeIs, ?_⟩
  refine HT.getItem_tuple_cut ht hs pl pu (by rw [hlen]; exact hw) ?_ (by rw [hlen]; exact hz)
  rw [hlen]
  refine ⟨.ref s.heap.objs.size, _, I.laid (t' := s.toks) (o := .tup (cutV xs lo hi)) (fun b ob q => Heap.get?_push_of_some _ q) (Nat.le_refl _) ?_, rfl, q _ (I.hok.fresh (Nat.le_refl _))⟩
  exact ⟨Nat.le_trans (cutV_length xs lo hi) hz, _, (r.drop (HT.sIx xs.length 0 lo)).take (HT.sIx xs.length xs.length hi - HT.sIx xs.length 0 lo), IsTup.new _ _⟩

/-! ### t < u, t + u -/
def rLtT (K : PySem.W.Frag) : R2 := fun x y H Q => ∃ a b ns ms, x = .ref a ∧ y = .ref b ∧ SqT K H a (ns.map V.int) ∧ SqT K H b (ms.map V.int) ∧ Q (.bl (HT.lexLt ns ms)) H
theorem op_ltT (hu : X.A.units < cLine) : OpR X (compareOp .Lt) (rLtT X.K) := by
  intro pins s σ H x y v u Q I rx ry h
  obtain ⟨a, b, ns, ms, rfl, rfl, ha, hb, q⟩ := h
  cases rx
  cases ry
  obtain ⟨its, r1, p1, _⟩ := I.tuple ha
  obtain ⟨its2, r2, p2, _⟩ := I.tuple hb
  have i1 : IntsAre its.toArray.toList ns := intsAre_of r1
  have i2 : IntsAre its2.toArray.toList ms := intsAre_of r2
  exact HT.lt_tupInts p1 p2 i1 i2 hu ⟨.bl (HT.lexLt ns ms), H, I, rfl, q⟩
/-- t + u, t not empty: u empty gives t itself -/
def rCatT (K : PySem.W.Frag) : R2 := fun x y H Q => ∃ a b xs ys, x = .ref a ∧ y = .ref b ∧ SqT K H a xs ∧ SqT K H b ys ∧ xs ≠ [] ∧ xs.length + ys.length ≤ sizeLine ∧
  (ys = [] → Q (.ref a) H) ∧ (ys ≠ [] → ∀ p, H p = none → Q (.ref p) (upd H p (.tup (xs ++ ys))))
theorem Vals.nil_iff {xs : List V} {us : List Value} (r : Vals xs us) : us = [] ↔ xs = [] := by
  cases r with
  | nil => simp
  | cons _ _ => simp
theorem op_catT : OpR X (binaryOp .Add) (rCatT X.K) := by
  intro pins s σ H x y v u Q I rx ry h
  obtain ⟨a, b, xs, ys, rfl, rfl, ha, hb, hx, hz, q1, q2⟩ := h
  cases rx
  cases ry
  obtain ⟨its, r1, p1, _⟩ := I.tuple ha
  obtain ⟨its2, r2, p2, _⟩ := I.tuple hb
  refine HT.cat_tup p1 p2 (fun z => hx (r1.nil_iff.mp z)) (fun z => ⟨.ref a, H, I, rfl, q1 (r2.nil_iff.mp z)⟩) (fun z => ?_) (by rw [← r1.length, ← r2.length]; exact hz)
  refine ⟨.ref s.heap.objs.size, _, I.laid (t' := s.toks) (o := .tup (xs ++ ys)) (fun b ob q => Heap.get?_push_of_some _ q) (Nat.le_refl _) ?_, rfl, q2 (fun w => z (r2.nil_iff.mpr w)) _ (I.hok.fresh (Nat.le_refl _))⟩
  exact ⟨by rw [List.length_append]; exact hz, _, r1.append r2, IsTup.new _ _⟩
/-- tuple(t) -/
theorem call_tupleT : CallR X (.type "tuple") (fun xs H Q => ∃ a ys, xs = [.ref a] ∧ SqT X.K H a ys ∧ Q (.ref a) H) := by
  intro pins s σ H xs us Q I r h
  obtain ⟨a, ys, rfl, ha, q⟩ := h
  obtain ⟨u, rfl, ru⟩ := vals1 r
  cases ru
  obtain ⟨its, _, p1, _⟩ := I.tuple ha
  exact call_tuple_same (items := its.toArray) p1 ⟨.ref a, H, I, rfl, q⟩
end
end L2

namespace L2
open PySem PySem.Spec PyProof.Rows

/-! ### places -/
/-- the place that an index of any sign means -/
def ixN (n : Nat) (i : Int) : Option Nat := if 0 ≤ i then (if i < n then some i.toNat else none) else if -(n : Int) ≤ i then some (i + n).toNat else none
def atI {α : Type} (xs : List α) (i : Int) : Option α := (ixN xs.length i).bind fun j => xs[j]?
theorem ixN_seq {n : Nat} {i : Int} {j : Nat} (h : ixN n i = some j) : seqIndex? i n = some j ∧ j < n ∧ -(n : Int) ≤ i ∧ i < n := by
  unfold ixN at h
  by_cases h0 : 0 ≤ i
  · rw [if_pos h0] at h
    by_cases h1 : i < n
    · rw [if_pos h1] at h
      have e : i.toNat = j := Option.some.inj h
      exact ⟨by rw [seqIndex_of h0 h1, e], by omega, by omega, h1⟩
    · rw [if_neg h1] at h; cases h
  · rw [if_neg h0] at h
    by_cases h1 : -(n : Int) ≤ i
    · rw [if_pos h1] at h
      have e : (i + n).toNat = j := Option.some.inj h
      exact ⟨by rw [seqIndex_neg (by omega) h1, e], by omega, h1, by omega⟩
    · rw [if_neg h1] at h; cases h
theorem atI_get {α : Type} {xs : List α} {i : Int} {v : α} (h : atI xs i = some v) : ∃ j, seqIndex? i xs.length = some j ∧ xs[j]? = some v ∧ j < xs.length ∧ -(xs.length : Int) ≤ i ∧ i < xs.length := by
  unfold atI at h
  cases e : ixN xs.length i with
  | none => rw [e] at h; cases h
  | some j =>
    rw [e] at h
    obtain ⟨h1, h2, h3, h4⟩ := ixN_seq e
    exact ⟨j, h1, h, h2, h3, h4⟩
theorem atI_nat {α : Type} {xs : List α} {j : Nat} {v : α} (h : xs[j]? = some v) : atI xs (j : Int) = some v := by
  have hj : j < xs.length := (List.getElem?_eq_some_iff.mp h).1
  have e : ixN xs.length (j : Int) = some j := by
    unfold ixN
    rw [if_pos (by omega), if_pos (by omega)]; simp
  unfold atI; rw [e]; exact h
theorem atI_last {α : Type} (xs : List α) (v : α) : atI (xs ++ [v]) (-1) = some v := by
  have hl : (xs ++ [v]).length = xs.length + 1 := by simp
  have e : ixN (xs ++ [v]).length (-1) = some xs.length := by
    unfold ixN
    rw [hl, if_neg (by decide), if_pos (by omega)]
    congr 1
    omega
  unfold atI
  rw [e]
  show (xs ++ [v])[xs.length]? = some v
  simp

/-! ### what may be subscripted -/
/-- what stands as an index of a plain subscript -/
def PlainIx (b : Expr) : Prop := ∀ o i, subscripted b false o i = operate [o, i] (getItem o i)
/-- a subscript by values -/
def IxR (X : Cx) (r : R2) : Prop :=
  ∀ (value slice : Expr) (pins : List (Addr × Obj)) (s : Shared) (σ : St) (H : Hp) (x y : V) (v u : Value) (Q : VK), Inv X pins σ H s → RelV x v → RelV y u → r x y H Q →
    subscripted slice false v u = operate [v, u] (getItem v u) → wpAny (model X.prog X.w) X.A (subscriptTail value slice v u) (EP X pins σ Q) X.xe s
/-- a call of a builtin's method by values: the receiver, the arguments -/
def MtR (X : Cx) (id : String) (r : V → List V → Hp → VK → Prop) : Prop :=
  ∀ (pins : List (Addr × Obj)) (s : Shared) (σ : St) (H : Hp) (x : V) (xs : List V) (v : Value) (us : List Value) (Q : VK), Inv X pins σ H s → RelV x v → Vals xs us → r x xs H Q →
    wpAny (model X.prog X.w) X.A (call (.builtin id) (v :: us)) (EP X pins σ Q) X.xe s
section
variable {X : Cx} {a b : Expr} {ta tb : TE} {pos : Pos}
theorem IxR.or {r r' : R2} (h : IxR X r) (h' : IxR X r') : IxR X (fun x y H Q => r x y H Q ∨ r' x y H Q) := by
  intro value slice pins s σ H x y v u Q I rx ry q hs
  rcases q with q | q
  · exact h value slice pins s σ H x y v u Q I rx ry q hs
  · exact h' value slice pins s σ H x y v u Q I rx ry q hs
theorem MtR.or {id : String} {r r' : V → List V → Hp → VK → Prop} (h : MtR X id r) (h' : MtR X id r') : MtR X id (fun x xs H Q => r x xs H Q ∨ r' x xs H Q) := by
  intro pins s σ H x xs v us Q I rx rs q
  rcases q with q | q
  · exact h pins s σ H x xs v us Q I rx rs q
  · exact h' pins s σ H x xs v us Q I rx rs q
/-- a[b] -/
theorem pe_ix {r : R2} (hr : IxR X r) (ha : PE X a ta) (hb : PE X b tb) (hs : PlainIx b) : PE X (.Subscript a b pos) (tOp r ta tb) := by
  intro pins s σ H Q I h
  exact Subscript_ (binT ha hb I h fun v u s2 x y H2 I2 rx ry q => hr a b pins s2 σ H2 x y v u Q I2 rx ry q (hs _ _))

def rIxL (K : PySem.W.Frag) : R2 := fun x y H Q => ∃ p xs i v, x = .ref p ∧ y = .int i ∧ SqL K H p xs ∧ atI xs i = some v ∧ Q v H
def rIxT (K : PySem.W.Frag) : R2 := fun x y H Q => ∃ p xs i v, x = .ref p ∧ y = .int i ∧ SqT K H p xs ∧ atI xs i = some v ∧ Q v H
def rIxS : R2 := fun x y H Q => ∃ z i c, x = .str z ∧ y = .int i ∧ z.length ≤ sizeLine ∧ atI z.cps.toList i = some c ∧ Q (.str ⟨#[c]⟩) H
theorem ix_list : IxR X (rIxL X.K) := by
  intro value slice pins s σ H x y v u Q I rx ry h hs
  obtain ⟨p, xs, i, z, rfl, rfl, hq, he, q⟩ := h
  cases rx
  obtain ⟨t, rfl⟩ := ry
  obtain ⟨its, r, pl, hz⟩ := I.list hq
  obtain ⟨j, h1, h2, h3, h4, h5⟩ := atI_get he
  obtain ⟨w, ew, rw'⟩ := r.get h2
  have hl := r.length
  have hn := line63
  have fin : EP X pins σ Q w s := ⟨z, H, I, rw', q⟩
  by_cases h0 : 0 ≤ i
  · have hj : i.toNat = j := by
      rw [seqIndex_of h0 h5] at h1
      exact Option.some.inj h1
    exact item_listR pl.isList h0 (by omega) (by rw [hj]; simpa using ew) fin hs
  · have hj : (i + (its.toArray.size : Int)).toNat = j := by
      rw [seqIndex_neg (by omega) h4] at h1
      rw [List.size_toArray, ← hl]
      exact Option.some.inj h1
    exact subscriptTail_builtinR (x := w) pl.isList.typeIs slot_list_getitem.lookup
      (wpAny_getItem_list_neg (Q := fun r s' => r = w ∧ EP X pins σ Q r s') pl.isList (by omega) (by rw [List.size_toArray] <;> omega) (by omega) (by rw [hj]; simpa using ew) ⟨rfl, fin⟩) hs
theorem ix_tup : IxR X (rIxT X.K) := by
  intro value slice pins s σ H x y v u Q I rx ry h hs
  obtain ⟨p, xs, i, z, rfl, rfl, hq, he, q⟩ := h
  cases rx
  obtain ⟨t, rfl⟩ := ry
  obtain ⟨its, r, pl, hz⟩ := I.tuple hq
  obtain ⟨j, h1, h2, h3, h4, h5⟩ := atI_get he
  obtain ⟨w, ew, rw'⟩ := r.get h2
  have hl := r.length
  have hn := line63
  have fin : EP X pins σ Q w s := ⟨z, H, I, rw', q⟩
  exact subscriptTail_builtinR (x := w) pl.typeIs slot_tuple_getitem.lookup
    (getItem_tuple (j := j) (Q := fun r s' => r = w ∧ EP X pins σ Q r s') pl (by omega) (by omega) (by rw [List.size_toArray, ← hl]; exact h1) (by simpa using ew) ⟨rfl, fin⟩) hs
theorem ix_str : IxR X rIxS := by
  intro value slice pins s σ H x y v u Q I rx ry h hs
  obtain ⟨z, i, c, rfl, rfl, hz, he, q⟩ := h
  obtain ⟨t, rfl⟩ := rx
  obtain ⟨t', rfl⟩ := ry
  obtain ⟨j, h1, h2, h3, h4, h5⟩ := atI_get he
  have hl : z.cps.toList.length = z.length := by simp [Str.length]
  rw [hl] at h1 h4 h5
  have hn := line63
  exact tail_any (typeIs_str s z t) slot_str_getitem.lookup (getItem_str (c := c) (by
    have e1 : decide (i < -(2 ^ 63 : Int)) = false := decide_eq_false (by omega)
    have e2 : decide (i ≥ 2 ^ 63) = false := decide_eq_false (by omega)
    rw [e1, e2, Bool.or_false]) (by rw [h1]; simpa using h2) ⟨.str ⟨#[c]⟩, H, I.tok _, ⟨_, rfl⟩, q⟩) hs
/-- list, tuple or str -/
def rIx (K : PySem.W.Frag) : R2 := fun x y H Q => rIxL K x y H Q ∨ rIxT K x y H Q ∨ rIxS x y H Q
theorem ix_seq : IxR X (rIx X.K) := ix_list.or (ix_tup.or ix_str)

/-! ### xs[i] = v, any sign -/
/-- the list's object behind a store -/
theorem mapSeq_set (its : List Value) (n j : Nat) (u : Value) : Obj.mapSeq (·.setIfInBounds j u) { cls := .type "list", data := .seq its.toArray n } = { cls := .type "list", data := .seq (its.set j u).toArray n } := by
  simp [Obj.mapSeq]
theorem Inv.lst {pins : List (Addr × Obj)} {σ : St} {H : Hp} {s : Shared} {p : Addr} {xs : List V} (I : Inv X pins σ H s) (h : H p = some (.lst xs)) :
    ∃ (its : List Value) (n : Nat), Vals xs its ∧ s.heap.get? p = some { cls := .type "list", data := .seq its.toArray n } ∧ xs.length ≤ sizeLine := by
  obtain ⟨z, its, n, r, e⟩ := I.hok p _ h
  exact ⟨its, n, r, e, z⟩
/-- the list at p is written by an update of its object -/
theorem Inv.lstUpd {pins : List (Addr × Obj)} {σ : St} {H : Hp} {s : Shared} {p : Addr} {xs ys : List V} {its its' : List Value} {n n' : Nat} {f : Obj → Obj} (I : Inv X pins σ H s) (h : H p = some (.lst xs))
    (ho : s.heap.get? p = some { cls := .type "list", data := .seq its.toArray n }) (hf : f { cls := .type "list", data := .seq its.toArray n } = { cls := .type "list", data := .seq its'.toArray n' }) (r : Vals ys its') (hz : ys.length ≤ sizeLine) (t : Nat) :
    Inv X pins σ (upd H p (.lst ys)) { s with heap := s.heap.update p f, toks := t } := by
  have e : (s.heap.update p f).get? p = some { cls := .type "list", data := .seq its'.toArray n' } := by
    rw [Heap.get?_update_self f ho (by rw [hf] <;> rfl), hf]
  refine I.write (x := p) (e := p) (by rw [h]; trivial) (.inl rfl) (fun b u hb q => (Heap.get?_update_other _ _ (Ne.symm hb)).trans q) ⟨_, e⟩ ?_
  exact ⟨hz, its', n', r, e⟩
def rSetL : V → V → V → Hp → (Hp → Prop) → Prop := fun o i v H Q => ∃ p xs k j, o = .ref p ∧ i = .int k ∧ H p = some (.lst xs) ∧ ixN xs.length k = some j ∧ Q (upd H p (.lst (xs.set j v)))
theorem set_list : PSet X rSetL := by
  intro pins s σ H o i v ov iv u Q I ro ri rv h
  obtain ⟨p, xs, k, j, rfl, rfl, hp, hj, q⟩ := h
  cases ro
  obtain ⟨t, rfl⟩ := ri
  obtain ⟨its, n, r, ho, hz⟩ := I.lst hp
  obtain ⟨h1, h2, h3, h4⟩ := ixN_seq hj
  have hl := r.length
  have hn := line63
  have I' : Inv X pins σ (upd H p (.lst (xs.set j v))) { s with heap := s.heap.update p (Obj.mapSeq (·.setIfInBounds j u)) } :=
    I.lstUpd hp ho (mapSeq_set its n j u) (r.set rv j) (by rw [List.length_set]; exact hz) s.toks
  by_cases h0 : 0 ≤ k
  · have hk : k.toNat = j := by
      rw [seqIndex_of h0 h4] at h1
      exact Option.some.inj h1
    exact PySem.W.ki_setAt ho h0 (by omega) (by rw [List.size_toArray, ← hl]; exact h4) (by rw [hk]; exact ⟨_, I', q⟩)
  · have hk : (k + (its.toArray.size : Int)).toNat = j := by
      rw [seqIndex_neg (by omega) h3] at h1
      rw [List.size_toArray, ← hl]
      exact Option.some.inj h1
    exact PySem.W.ki_setBack ho (by omega) (by rw [List.size_toArray, ← hl]; exact h3) (by omega) (by rw [hk]; exact ⟨_, I', q⟩)

/-! ### slices -/
theorem slice_bounds (lo hi : Option Int) (n : Nat) : (sliceBounds lo hi none n).1 = ((HT.sIx n 0 lo : Nat) : Int) ∧ (sliceBounds lo hi none n).2.1 = ((HT.sIx n n hi : Nat) : Int) ∧ (sliceBounds lo hi none n).2.2 = 1 := by
  refine ⟨?_, ?_, rfl⟩
  · cases lo with
    | none => simp [sliceBounds, HT.sIx]
    | some i =>
      simp only [sliceBounds, HT.sIx, Option.getD_none, show (1 : Int) > 0 by decide, if_true]
      by_cases h : i < 0
      · simp only [h, if_true] <;> omega
      · simp only [h, if_false] <;> omega
  · cases hi with
    | none => simp [sliceBounds, HT.sIx]
    | some i =>
      simp only [sliceBounds, HT.sIx, Option.getD_none, show (1 : Int) > 0 by decide, if_true]
      by_cases h : i < 0
      · simp only [h, if_true] <;> omega
      · simp only [h, if_false] <;> omega
theorem slicePick_cut (its : List Value) (lo hi : Option Int) : slicePick its.toArray lo hi none = ((its.drop (HT.sIx its.length 0 lo)).take (HT.sIx its.length its.length hi - HT.sIx its.length 0 lo)).toArray := by
  obtain ⟨h1, h2, h3⟩ := slice_bounds lo hi its.toArray.size
  unfold slicePick
  rw [h1, h2, h3]
  simp only [sliceRange_one, pick_run, List.size_toArray] <;> rfl
/-- xs[lo:hi] of a list: a new list -/
def rSlL (K : PySem.W.Frag) : V → Option Int → Option Int → Hp → VK → Prop := fun x lo hi H Q => ∃ a xs, x = .ref a ∧ SqL K H a xs ∧ ∀ p, H p = none → Q (.ref p) (upd H p (.lst (cutV xs lo hi)))
theorem sl_list : SlR X (rSlL X.K) := by
  intro pins s σ H x v vl vu lo hi sl Q I rx hs pl pu h
  obtain ⟨a, xs, rfl, hx, q⟩ := h
  cases rx
  obtain ⟨its, r, ht, hz⟩ := I.list hx
  have hlen := r.length
  refine ⟨"list", _, slot_list_getitem.lookup, ht.isList.typeIs, ?_⟩
  refine wpAny_getItem_list_slice ht.isList hs pl pu .none (by simp) ?_ (by rw [List.size_toArray] <;> omega)
  rw [slicePick_cut, ← hlen]
  refine ⟨.ref s.heap.objs.size, _, I.laid (t' := s.toks) (o := .lst (cutV xs lo hi)) (fun b ob q => Heap.get?_push_of_some _ q) (Nat.le_refl _) ?_, rfl, q _ (I.hok.fresh (Nat.le_refl _))⟩
  exact ⟨Nat.le_trans (cutV_length xs lo hi) hz, _, 0, (r.drop (HT.sIx xs.length 0 lo)).take (HT.sIx xs.length xs.length hi - HT.sIx xs.length 0 lo), Heap.get?_push_size _ rfl⟩

/-! ### in, not in: flat items -/
def flatV : V → Bool
  | .non => true
  | .bl _ => true
  | .int _ => true
  | .str _ => true
  | _ => false
/-- == of flat values -/
def eqV : V → V → Bool
  | .non, .non => true
  | .bl a, .bl b => a == b
  | .bl a, .int b => (if a then 1 else 0) == b
  | .int a, .bl b => a == (if b then 1 else 0)
  | .int a, .int b => a == b
  | .str a, .str b => a == b
  | _, _ => false
theorem eqAt_V {A : Around} {s : Shared} {y x : V} {u v : Value} (ry : RelV y u) (rx : RelV x v) (fy : flatV y = true) (fx : flatV x = true) : SeqAt.EqAt A s u v (eqV y x) := by
  cases y with
  | non =>
    cases ry
    cases x with
    | non => cases rx; exact SeqAt.EqAt.same _
    | bl b => cases rx; exact SeqAt.EqAt.none_bool b
    | int b => obtain ⟨t, rfl⟩ := rx; exact SeqAt.EqAt.none_int b t
    | str b => obtain ⟨t, rfl⟩ := rx; exact SeqAt.EqAt.none_str b t
    | _ => exact absurd (show false = true from fx) Bool.false_ne_true
  | bl a =>
    cases ry
    cases x with
    | non => cases rx; exact SeqAt.EqAt.bool_none a
    | bl b => cases rx; exact SeqAt.EqAt.bool_bool a b
    | int b => obtain ⟨t, rfl⟩ := rx; exact SeqAt.EqAt.bool_int a b t
    | str b => obtain ⟨t, rfl⟩ := rx; exact SeqAt.EqAt.bool_str a b t
    | _ => exact absurd (show false = true from fx) Bool.false_ne_true
  | int a =>
    obtain ⟨t', rfl⟩ := ry
    cases x with
    | non => cases rx; exact SeqAt.EqAt.int_none a t'
    | bl b => cases rx; exact SeqAt.EqAt.int_bool a t' b
    | int b => obtain ⟨t, rfl⟩ := rx; exact SeqAt.EqAt.int_int a t' b t
    | str b => obtain ⟨t, rfl⟩ := rx; exact SeqAt.EqAt.int_str a t' b t
    | _ => exact absurd (show false = true from fx) Bool.false_ne_true
  | str a =>
    obtain ⟨t', rfl⟩ := ry
    cases x with
    | non => cases rx; exact SeqAt.EqAt.str_none a t'
    | bl b => cases rx; exact SeqAt.EqAt.str_bool a t' b
    | int b => obtain ⟨t, rfl⟩ := rx; exact SeqAt.EqAt.str_int a t' b t
    | str b => obtain ⟨t, rfl⟩ := rx; exact SeqAt.EqAt.str_str a t' b t
    | _ => exact absurd (show false = true from fx) Bool.false_ne_true
  | _ => exact absurd (show false = true from fy) Bool.false_ne_true
/-- the items' answers, read off the values (a value's own answer does not lean on its token) -/
def eqU (x : V) (u : Value) : Bool := match u with
  | .none => eqV .non x
  | .bool b => eqV (.bl b) x
  | .int i _ => eqV (.int i) x
  | .str z _ => eqV (.str z) x
  | _ => false
theorem eqU_of {x y : V} {u : Value} (r : RelV y u) (f : flatV y = true) : eqU x u = eqV y x := by
  cases y with
  | non => cases r; rfl
  | bl b => cases r; rfl
  | int i => obtain ⟨t, rfl⟩ := r; rfl
  | str z => obtain ⟨t, rfl⟩ := r; rfl
  | _ => exact absurd (show false = true from f) Bool.false_ne_true
theorem any_eqU {x : V} : ∀ {xs : List V} {us : List Value}, Vals xs us → xs.all flatV = true → us.any (eqU x) = xs.any fun y => eqV y x
  | _, _, .nil, _ => rfl
  | y :: xs, u :: us, .cons r t, f => by
    rw [List.all_cons, Bool.and_eq_true] at f
    rw [List.any_cons, List.any_cons, eqU_of r f.1, any_eqU t f.2]
theorem mem_eqAt {A : Around} {s : Shared} {x : V} {v : Value} (rx : RelV x v) (fx : flatV x = true) : ∀ {xs : List V} {us : List Value}, Vals xs us → xs.all flatV = true → ∀ u ∈ us, SeqAt.EqAt A s u v (eqU x u)
  | _, _, .nil, _ => fun u hu => by cases hu
  | y :: xs, u :: us, .cons r t, f => fun u' hu => by
    rw [List.all_cons, Bool.and_eq_true] at f
    rcases List.mem_cons.mp hu with rfl | hu
    · rw [eqU_of r f.1]; exact eqAt_V r rx f.1 fx
    · exact mem_eqAt rx fx t f.2 u' hu
def inV (x : V) (xs : List V) : Bool := xs.any fun y => eqV y x
/-- x in a list or tuple of flat items -/
def rIn (K : PySem.W.Frag) (neg : Bool) : R2 := fun x y H Q => ∃ p xs, y = .ref p ∧ (SqL K H p xs ∨ SqT K H p xs) ∧ flatV x = true ∧ xs.all flatV = true ∧ Q (.bl (if neg then !inV x xs else inV x xs)) H
theorem op_in_seq : OpR X (compareOp .In) (rIn X.K false) := by
  intro pins s σ H x y v u Q I rx ry h
  obtain ⟨p, xs, rfl, hq, fx, fs, q⟩ := h
  cases ry
  rcases hq with hq | hq
  · obtain ⟨its, r, pl, hz⟩ := I.list hq
    refine SeqAt.in_listAt (eqU x) pl.isList (fun w hw => mem_eqAt rx fx r fs w (by simpa using hw)) ⟨.bl _, H, I, rfl, ?_⟩
    rw [show its.toArray.any (eqU x) = its.any (eqU x) by simp, any_eqU r fs]
    exact q
  · obtain ⟨its, r, pl, hz⟩ := I.tuple hq
    refine SeqAt.in_tupleAt (eqU x) pl (fun w hw => mem_eqAt rx fx r fs w (by simpa using hw)) ⟨.bl _, H, I, rfl, ?_⟩
    rw [show its.toArray.any (eqU x) = its.any (eqU x) by simp, any_eqU r fs]
    exact q
theorem op_notIn_seq : OpR X (compareOp .NotIn) (rIn X.K true) := by
  intro pins s σ H x y v u Q I rx ry h
  obtain ⟨p, xs, rfl, hq, fx, fs, q⟩ := h
  cases ry
  rcases hq with hq | hq
  · obtain ⟨its, r, pl, hz⟩ := I.list hq
    refine SeqAt.notIn_listAt (eqU x) pl.isList (fun w hw => mem_eqAt rx fx r fs w (by simpa using hw)) ⟨.bl _, H, I, rfl, ?_⟩
    rw [show its.toArray.any (eqU x) = its.any (eqU x) by simp, any_eqU r fs]
    exact q
  · obtain ⟨its, r, pl, hz⟩ := I.tuple hq
    refine SeqAt.notIn_tupleAt (eqU x) pl (fun w hw => mem_eqAt rx fx r fs w (by simpa using hw)) ⟨.bl _, H, I, rfl, ?_⟩
    rw [show its.toArray.any (eqU x) = its.any (eqU x) by simp, any_eqU r fs]
    exact q
theorem op_notIn_str : OpR X (compareOp .NotIn) (fun x y H Q => ∃ i j, x = .str i ∧ y = .str j ∧ Q (.bl (!(!(Builtin.Str.occurrences j i 0 j.length 1).isEmpty))) H) := by
  intro pins s σ H x y v u Q I rx ry h
  obtain ⟨i, j, rfl, rfl, q⟩ := h
  obtain ⟨t, rfl⟩ := rx
  obtain ⟨t', rfl⟩ := ry
  exact notIn_str ⟨.bl _, H, I, rfl, q⟩

/-! ### len, list(x), tuple(x) of any list or tuple that is read -/
theorem call_len_seq : CallR X (.builtin "len") (fun xs H Q => ∃ p ys, xs = [.ref p] ∧ (SqL X.K H p ys ∨ SqT X.K H p ys) ∧ Q (.int ys.length) H) := by
  intro pins s σ H xs us Q I r h
  obtain ⟨p, ys, rfl, hq, q⟩ := h
  obtain ⟨u, rfl, rx⟩ := vals1 r
  cases rx
  have hn := line63
  rcases hq with hq | hq
  · obtain ⟨its, r', pl, hz⟩ := I.list hq
    have hlen := r'.length
    exact Calls.call_len_list pl.isList (by simp only [List.size_toArray] <;> omega) ⟨.int ys.length, H, I.tok _, ⟨s.toks + 1, by rw [List.size_toArray, hlen]⟩, q⟩
  · obtain ⟨its, r', pl, hz⟩ := I.tuple hq
    have hlen := r'.length
    exact len_tuple pl (by simp only [List.size_toArray] <;> omega) ⟨.int ys.length, H, I.tok _, ⟨s.toks + 1, by rw [List.size_toArray, hlen]⟩, q⟩
theorem call_len_str : CallR X (.builtin "len") (fun xs H Q => ∃ z, xs = [.str z] ∧ z.length ≤ sizeLine ∧ Q (.int z.length) H) := by
  intro pins s σ H xs us Q I r h
  obtain ⟨z, rfl, hz, q⟩ := h
  obtain ⟨u, rfl, t, rfl⟩ := vals1 r
  have hn := line63
  exact len_str (by omega) ⟨.int z.length, H, I.tok _, ⟨_, rfl⟩, q⟩
theorem CallR.or {f : Value} {r r' : List V → Hp → VK → Prop} (h : CallR X f r) (h' : CallR X f r') : CallR X f (fun xs H Q => r xs H Q ∨ r' xs H Q) := by
  intro pins s σ H xs us Q I rs q
  rcases q with q | q
  · exact h pins s σ H xs us Q I rs q
  · exact h' pins s σ H xs us Q I rs q
theorem call_list_of : CallR X (.type "list") (fun xs H Q => ∃ p ys, xs = [.ref p] ∧ (SqL X.K H p ys ∨ SqT X.K H p ys) ∧ ∀ l, H l = none → Q (.ref l) (upd H l (.lst ys))) := by
  intro pins s σ H xs us Q I r h
  obtain ⟨p, ys, rfl, hq, q⟩ := h
  obtain ⟨u, rfl, rx⟩ := vals1 r
  cases rx
  have fin : ∀ (its : List Value), Vals ys its → ys.length ≤ sizeLine → ∀ (h' : Heap) (c' : Nat), (∀ b o', s.heap.get? b = some o' → h'.get? b = some o') →
      h'.get? s.heap.objs.size = some { cls := .type "list", dict := none, data := .seq its.toArray c', slots := #[] } → EP X pins σ Q (.ref s.heap.objs.size) { s with heap := h' } := fun its r' hz h' c' kp e =>
    ⟨.ref s.heap.objs.size, _, I.laid (t' := s.toks) kp (Nat.le_refl _) (show ObjOk X.prog X.w _ h' _ (.lst ys) from ⟨hz, its, c', r', e⟩), rfl, q _ (I.hok.fresh (Nat.le_refl _))⟩
  rcases hq with hq | hq
  · obtain ⟨its, r', pl, hz⟩ := I.list hq
    have hlen := r'.length
    obtain ⟨o, ho, hc, n, hd⟩ := pl.isList
    exact call_list_seq p (.inl rfl) ho hc hd (fun h' c' kp e => fin its r' hz h' c' kp e) (by simp only [List.size_toArray] <;> omega)
  · obtain ⟨its, r', pl, hz⟩ := I.tuple hq
    have hlen := r'.length
    obtain ⟨o, ho, hc, n, hd⟩ := pl
    exact call_list_seq p (.inr rfl) ho hc hd (fun h' c' kp e => fin its r' hz h' c' kp e) (by simp only [List.size_toArray] <;> omega)
theorem call_tuple_of : CallR X (.type "tuple") (fun xs H Q => ∃ p ys, xs = [.ref p] ∧ ((SqL X.K H p ys ∧ ∀ l, H l = none → Q (.ref l) (upd H l (.tup ys))) ∨ (SqT X.K H p ys ∧ Q (.ref p) H))) := by
  intro pins s σ H xs us Q I r h
  obtain ⟨p, ys, rfl, h⟩ := h
  obtain ⟨u, rfl, rx⟩ := vals1 r
  cases rx
  rcases h with ⟨hq, q⟩ | ⟨hq, q⟩
  · obtain ⟨its, r', pl, hz⟩ := I.list hq
    have hlen := r'.length
    refine call_tuple_list pl.isList (fun h' kp => ?_) (by simp only [List.size_toArray] <;> omega)
    have I1 : Inv X pins σ H { s with heap := h' } := I.kept (t' := s.toks) kp
    have I2 : Inv X pins σ (upd H h'.objs.size (.tup ys)) { s with heap := h'.push { cls := .type "tuple", data := .seq its.toArray } } :=
      I1.laid (t' := s.toks) (fun b o e => Heap.get?_push_of_some _ e) (Nat.le_refl _) (show ObjOk X.prog X.w _ _ _ (.tup ys) from ⟨hz, its, r', IsTup.new _ _⟩)
    exact ⟨.ref h'.objs.size, _, I2, rfl, q _ (I1.hok.fresh (Nat.le_refl _))⟩
  · obtain ⟨its, r', pl, hz⟩ := I.tuple hq
    exact call_tuple_same pl ⟨.ref p, H, I, rfl, q⟩

/-! ### the call of a builtin's method: o.m(..) -/
/-- the value is of that builtin type -/
def tyV (K : PySem.W.Frag) (T : String) (x : V) (H : Hp) : Prop := match x with
  | .str _ => T = "str"
  | .int _ => T = "int"
  | .ref p => (T = "list" ∧ ∃ xs, SqL K H p xs) ∨ (T = "tuple" ∧ ∃ o, K.lookup p = some o ∧ o.cls = .type "tuple" ∧ o.dict = none) ∨
      (T = "dict" ∧ ((∃ kvs, H p = some (.dK kvs)) ∨ ∃ kvs, H p = some (.dT kvs))) ∨ (T = "set" ∧ ∃ S n, H p = some (.set S n))
  | _ => False
theorem tyV_is {pins : List (Addr × Obj)} {σ : St} {H : Hp} {s : Shared} {T : String} {x : V} {v : Value} (I : Inv X pins σ H s) (r : RelV x v) (ty : tyV X.K T x H) :
    s.TypeIs v T ∧ ∀ a, v = .ref a → ∃ ob, s.heap.get? a = some ob ∧ ob.dict = none := by
  cases x with
  | str z =>
    obtain ⟨t, rfl⟩ := r
    cases (show T = "str" from ty)
    exact ⟨typeIs_str s z t, fun _ e => nomatch e⟩
  | int i =>
    obtain ⟨t, rfl⟩ := r
    cases (show T = "int" from ty)
    exact ⟨typeIs_int s i t, fun _ e => nomatch e⟩
  | ref p =>
    cases r
    rcases ty with ⟨rfl, xs, hq⟩ | ⟨rfl, o, hk, hc, hd⟩ | ⟨rfl, hk⟩ | ⟨rfl, S, n, hk⟩
    · obtain ⟨its, _, pl, _⟩ := I.list hq
      refine ⟨pl.isList.typeIs, fun a e => ?_⟩
      cases e
      obtain ⟨o, n, e, c, hd, _⟩ := pl
      exact ⟨o, e, hd⟩
    · refine ⟨⟨o, I.kIn p o hk, hc⟩, fun a e => ?_⟩
      cases e
      exact ⟨o, I.kIn _ o hk, hd⟩
    · have z : ∃ o, s.heap.get? p = some o ∧ o.ExactDict := by
        rcases hk with ⟨kvs, hk⟩ | ⟨kvs, hk⟩
        · obtain ⟨_, _, _, _, o, _, _, e, ex, _⟩ := I.hok p _ hk
          exact ⟨o, e, ex⟩
        · obtain ⟨_, _, _, _, o, _, _, e, ex, _⟩ := I.hok p _ hk
          exact ⟨o, e, ex⟩
      obtain ⟨o, e, ex⟩ := z
      refine ⟨⟨o, e, ex.1⟩, fun a e2 => ?_⟩
      cases e2
      exact ⟨o, e, ex.2.1⟩
    · obtain ⟨o, _, _, _, e, ex, _⟩ := I.hok p _ hk
      refine ⟨⟨o, e, ex.1⟩, fun a e2 => ?_⟩
      cases e2
      exact ⟨o, e, ex.2.1⟩
  | _ => exact False.elim ty
def tBM0 (K : PySem.W.Frag) (T : String) (r : V → List V → Hp → VK → Prop) (to : TE) : TE := fun σ H Q => to σ H fun x H1 => tyV K T x H1 ∧ r x [] H1 Q
def tBM (K : PySem.W.Frag) (T : String) (r : V → List V → Hp → VK → Prop) (to : TE) (t : TA) : TE := fun σ H Q => to σ H fun x H1 => tyV K T x H1 ∧ t σ H1 fun xs H2 => r x xs H2 Q
variable {o e : Expr} {es : List Expr} {to : TE} {t : TA} {name : Str} {apos cpos : Pos} {T id : String} {r : V → List V → Hp → VK → Prop}
theorem pe_bm0 (pa : PlainAttrs T) (slot : Slot T name id) (hty : typeOf (.builtin id) = pure (.type "method_descriptor")) (hm : MtR X id r) (ho : PE X o to)
    (hbase : attributeBase o name X.env (eval o X.env) = eval o X.env := by rfl) (hline : (apos.endLine == cpos.line) = true := by rfl) : PE X (.Call (.Attribute o name apos) [] [] cpos) (tBM0 X.K T r to) := by
  intro pins s σ H Q I h
  refine wpAny_Call_method0_late hbase hline (thn (ho pins s σ H _ I h) fun v s1 ⟨x, H1, I1, r1, ty, q1⟩ => ?_)
  obtain ⟨h1, h2⟩ := tyV_is I1 r1 ty
  exact ⟨T, id, pa, slot, hty, h1, h2, Calls.callWith_builtin rfl (PySem.evalArgs_none (hm pins s1 σ H1 x [] v [] Q I1 r1 .nil q1))⟩
theorem pe_bm (pa : PlainAttrs T) (slot : Slot T name id) (hty : typeOf (.builtin id) = pure (.type "method_descriptor")) (hm : MtR X id r) (ho : PE X o to) (ha : PA X (e :: es) t)
    (hbase : attributeBase o name X.env (eval o X.env) = eval o X.env := by rfl)
    (hfew : ((backTo cpos (starEach (e :: es) X.env)).all (fun x => !x.1) && (backToKw cpos (keywordEach [] X.env)).all (fun x => x.1.isSome)
      && decide ((e :: es).length + ([] : List Keyword).length + (if ([] : List Keyword).isEmpty then 0 else 1) < 30)) = true := by rfl)
    (hline : (apos.endLine == cpos.line) = true := by rfl) (hs : starEach (e :: es) X.env = (false, eval e X.env) :: starEach es X.env := by rfl) (hplain : (backTo cpos (starEach es X.env)).any (·.1) = false := by rfl) :
    PE X (.Call (.Attribute o name apos) (e :: es) [] cpos) (tBM X.K T r to t) := by
  intro pins s σ H Q I h
  refine wpAny_Call_method_late hbase hfew hline rfl (thn (ho pins s σ H _ I h) fun v s1 ⟨x, H1, I1, r1, ty, q1⟩ => ?_)
  obtain ⟨h1, h2⟩ := tyV_is I1 r1 ty
  refine ⟨T, id, pa, slot, hty, h1, h2, ?_⟩
  have hA := ha cpos pins s1 σ H1 _ I1 q1
  rw [hs] at hA ⊢
  refine Calls.callWith_builtin (by show (false || (backTo cpos (starEach es X.env)).any (·.1)) = false; rw [hplain] <;> rfl) (Calls.evalArgs_plain ?_)
  exact thn hA fun us s2 ⟨vs, H2, I2, r2, q2⟩ => hm pins s2 σ H2 x vs v us Q I2 r1 r2 q2
/- xs.append(e), list.index on a module's tuple .. are MtR facts of 06m -/
end
end L2

namespace L2
open PySem PySem.Spec PyProof.Rows

def MtM (X : Cx) (id : String) (r : V → List V → Hp → VK → Prop) : Prop :=
  ∀ (pins : List (Addr × Obj)) (s : Shared) (σ : St) (H : Hp) (x : V) (xs : List V) (v : Value) (us : List Value) (Q : VK), Inv X pins σ H s → RelV x v → Vals xs us → r x xs H Q →
    wpAny (model X.prog X.w) X.A (call (.builtin id) (v :: us)) (EP X pins σ Q) X.xe s

/-! ### lists of values -/
theorem Vals.one : ∀ {x : V} {us : List Value}, Vals [x] us → ∃ u, us = [u] ∧ RelV x u
  | _, _, .cons r .nil => ⟨_, rfl, r⟩
theorem Vals.two : ∀ {x y : V} {us : List Value}, Vals [x, y] us → ∃ u v, us = [u, v] ∧ RelV x u ∧ RelV y v
  | _, _, _, .cons r (.cons q .nil) => ⟨_, _, rfl, r, q⟩
theorem Vals.zero : ∀ {us : List Value}, Vals [] us → us = []
  | _, .nil => rfl
theorem Vals.dropLast {xs : List V} {us : List Value} (h : Vals xs us) : Vals xs.dropLast us.dropLast := by
  induction h with
  | nil => exact .nil
  | cons r t ih =>
    cases t with
    | nil => exact .nil
    | cons q t' => exact .cons r ih
theorem Vals.eraseIdx : ∀ {xs : List V} {us : List Value} (i : Nat), Vals xs us → Vals (xs.eraseIdx i) (us.eraseIdx i)
  | _, _, _, .nil => .nil
  | _, _, 0, .cons _ t => t
  | _, _, i + 1, .cons r t => .cons r (Vals.eraseIdx i t)
theorem Vals.reverse {xs : List V} {us : List Value} (h : Vals xs us) : Vals xs.reverse us.reverse := by
  induction h with
  | nil => exact .nil
  | cons r t ih => rw [List.reverse_cons, List.reverse_cons]; exact Vals.append ih (.cons r .nil)
theorem Vals.rep {xs : List V} {us : List Value} (h : Vals xs us) : ∀ k : Nat, Vals (List.replicate k xs).flatten (List.replicate k us).flatten
  | 0 => .nil
  | k + 1 => by
    rw [List.replicate_succ, List.replicate_succ, List.flatten_cons, List.flatten_cons]
    exact Vals.append h (Vals.rep h k)
theorem erase_last {α : Type} (l : List α) : l.eraseIdx (l.length - 1) = l.dropLast := by
  induction l with
  | nil => rfl
  | cons a r ih =>
    cases r with
    | nil => rfl
    | cons b r =>
      have e : (a :: b :: r).length - 1 = ((b :: r).length - 1) + 1 := by
        have h1 : (a :: b :: r).length = r.length + 2 := rfl
        have h2 : (b :: r).length = r.length + 1 := rfl
        omega
      rw [e, List.eraseIdx_cons_succ, ih]
      all_goals rfl
theorem len_erase {α : Type} : ∀ (l : List α) (i : Nat), (l.eraseIdx i).length ≤ l.length
  | [], _ => Nat.le_refl _
  | _ :: _, 0 => Nat.le_succ _
  | _ :: r, i + 1 => Nat.succ_le_succ (len_erase r i)
theorem foldl_rep (its : List Value) : ∀ (k : Nat) (acc : List Value),
    List.foldl (fun x1 x2 => x1 ++ x2) acc.toArray (List.replicate k its.toArray) = (acc ++ (List.replicate k its).flatten).toArray
  | 0, acc => by simp
  | k + 1, acc => by
    have e : acc.toArray ++ its.toArray = (acc ++ its).toArray := by simp
    have e2 : (acc ++ its) ++ (List.replicate k its).flatten = acc ++ (List.replicate (k + 1) its).flatten := by
      rw [List.replicate_succ, List.flatten_cons, List.append_assoc]
    rw [← e2, ← foldl_rep its k (acc ++ its), ← e, List.replicate_succ, List.foldl_cons]

section
variable {X : Cx} {pins : List (Addr × Obj)} {σ : St} {H : Hp} {s : Shared} {l b : Addr} {xs ys zs : List V}

/-! ### the two steps: a tracked list is rewritten, a new list is laid -/
theorem Inv.lset {its its' : List Value} {n : Nat} {f : Array Value → Array Value} {t' : Nat} (I : Inv X pins σ H s) (hH : H l = some (.lst xs))
    (e : s.heap.get? l = some { cls := .type "list", data := .seq its.toArray n }) (hf : f its.toArray = its'.toArray) (hv : Vals ys its') (hz : ys.length ≤ sizeLine) :
    Inv X pins σ (upd H l (.lst ys)) { s with heap := s.heap.update l (Obj.mapSeq f), toks := t' } := by
  have q := PySem.IsL.update e f
  rw [hf] at q
  refine I.write (x := l) (e := l) (by rw [hH]; exact trivial) (.inl rfl) (fun b' u hb hu => (Heap.get?_update_other s.heap (Obj.mapSeq f) (Ne.symm hb)).trans hu) ⟨_, q⟩ ?_
  exact ⟨hz, its', _, hv, q⟩
theorem Inv.lnew {its : List Value} {t' : Nat} (I : Inv X pins σ H s) (hv : Vals ys its) (hz : ys.length ≤ sizeLine) :
    Inv X pins σ (upd H s.heap.objs.size (.lst ys)) { s with heap := s.heap.push { cls := .type "list", data := .seq its.toArray }, toks := t' } :=
  I.laid (fun _ _ q => Heap.get?_push_of_some _ q) (Nat.le_refl _) ⟨hz, its, 0, hv, Heap.get?_push_size _ rfl⟩
theorem Inv.fresh (I : Inv X pins σ H s) : H s.heap.objs.size = none := I.hok.fresh (Nat.le_refl _)
theorem Inv.lstM (I : Inv X pins σ H s) (hH : H l = some (.lst xs)) : xs.length ≤ sizeLine ∧ ∃ (its : List Value) (n : Nat), Vals xs its ∧ xs.length = its.length ∧ s.heap.get? l = some { cls := .type "list", data := .seq its.toArray n } := by
  obtain ⟨z, its, n, r, e⟩ := I.hok l _ hH
  exact ⟨z, its, n, r, r.length, e⟩

theorem notLongL {n : Nat} (h : n ≤ sizeLine) : Builtin.List.listTooLong n = false := by
  unfold Builtin.List.listTooLong
  exact decide_eq_false (by omega)
end

section
variable {X : Cx}

/-! ### methods -/
def rAppend : V → List V → Hp → VK → Prop := fun x vs H Q => ∃ l xs y, x = .ref l ∧ vs = [y] ∧ H l = some (.lst xs) ∧ xs.length < sizeLine ∧ Q .non (upd H l (.lst (xs ++ [y])))
theorem mt_append : MtM X "list.append" rAppend := by
  intro pins s σ H x vs v us Q I rx rv h
  obtain ⟨l, xs, y, rfl, rfl, hH, hz, q⟩ := h
  cases rx
  obtain ⟨u, rfl, ru⟩ := rv.one
  obtain ⟨z, its, n, r, hl, e⟩ := I.lstM hH
  refine call_meets F.slot_list_append ⟨_, e, rfl⟩ F.entry_list_append (F.args_list_append_2 _ _) (PySem.list_append l its.toArray n u (by rw [List.size_toArray]; omega)) ⟨e, ?_⟩
  refine ⟨.non, _, I.lset (its' := its ++ [u]) hH e (by simp) (r.append (.cons ru .nil)) ?_, rfl, q⟩
  rw [List.length_append, List.length_singleton]
  omega

def rExtend : V → List V → Hp → VK → Prop := fun x vs H Q => ∃ l b xs zs, x = .ref l ∧ vs = [.ref b] ∧ H l = some (.lst xs) ∧ H b = some (.lst zs) ∧ xs.length + zs.length ≤ sizeLine ∧ Q .non (upd H l (.lst (xs ++ zs)))
theorem mt_extend : MtM X "list.extend" rExtend := by
  intro pins s σ H x vs v us Q I rx rv h
  obtain ⟨l, b, xs, zs, rfl, rfl, hH, hB, hz, q⟩ := h
  cases rx
  obtain ⟨u, rfl, ru⟩ := rv.one
  cases ru
  obtain ⟨z, its, n, r, hl, e⟩ := I.lstM hH
  obtain ⟨z2, its2, n2, r2, hl2, e2⟩ := I.lstM hB
  have hsz : its.toArray.size + its2.toArray.size ≤ sizeLine := by rw [List.size_toArray, List.size_toArray]; omega
  have hlong : ¬ (!its.toArray.isEmpty && Builtin.List.listTooLong (its.toArray.size + its2.toArray.size)) = true := by
    rw [notLongL hsz, Bool.and_false]
    exact Bool.false_ne_true
  refine call_meets F.slot_list_extend ⟨_, e, rfl⟩ F.entry_list_extend (F.args_list_extend_2 _ _)
    (AutoSeq1.list_extend_list_list_0 l its.toArray n b its2.toArray n2 hlong (by rw [List.size_toArray]; omega) (by omega)) ⟨e, e2, ?_⟩
  refine ⟨.non, _, I.lset (its' := its ++ its2) hH e (by simp) (r.append r2) ?_, rfl, q⟩
  rw [List.length_append]
  omega

def rPop : V → List V → Hp → VK → Prop := fun x vs H Q => ∃ l xs y, x = .ref l ∧ vs = [] ∧ H l = some (.lst xs) ∧ xs[xs.length - 1]? = some y ∧ Q y (upd H l (.lst xs.dropLast))
theorem mt_pop : MtM X "list.pop" rPop := by
  intro pins s σ H x vs v us Q I rx rv h
  obtain ⟨l, xs, y, rfl, rfl, hH, hy, q⟩ := h
  cases rx
  have hus := rv.zero
  subst hus
  obtain ⟨z, its, n, r, hl, e⟩ := I.lstM hH
  obtain ⟨u, hu, ru⟩ := r.get hy
  have hy' : its.toArray[its.toArray.size - 1]? = some u := by
    show its.toArray[its.length - 1]? = some u
    rw [← Array.getElem?_toList, ← hl]
    exact hu
  refine call_meets F.slot_list_pop ⟨_, e, rfl⟩ F.entry_list_pop (F.args_list_pop_1 _) (MeetsSeq.list_pop_last l its.toArray n u hy' (by rw [List.size_toArray]; omega)) ⟨e, ?_⟩
  refine ⟨y, _, I.lset (its' := its.dropLast) hH e ?_ r.dropLast ?_, ru, q⟩
  · show its.toArray.eraseIdxIfInBounds (its.toArray.size - 1) = its.dropLast.toArray
    rw [List.size_toArray, List.eraseIdxIfInBounds_toArray, erase_last]
  · rw [List.length_dropLast]
    omega

def rPopAt : V → List V → Hp → VK → Prop := fun x vs H Q => ∃ l xs i k y, x = .ref l ∧ vs = [.int i] ∧ H l = some (.lst xs) ∧ -(2 ^ 63) ≤ i ∧ i < 2 ^ 63 ∧ seqIndex? i xs.length = some k ∧ xs[k]? = some y ∧ Q y (upd H l (.lst (xs.eraseIdx k)))
theorem mt_popAt : MtM X "list.pop" rPopAt := by
  intro pins s σ H x vs v us Q I rx rv h
  obtain ⟨l, xs, i, k, y, rfl, rfl, hH, h1, h2, hk, hy, q⟩ := h
  cases rx
  obtain ⟨u, rfl, ru⟩ := rv.one
  obtain ⟨t, rfl⟩ := ru
  obtain ⟨z, its, n, r, hl, e⟩ := I.lstM hH
  obtain ⟨w, hw, rw'⟩ := r.get hy
  refine call_meets F.slot_list_pop ⟨_, e, rfl⟩ F.entry_list_pop (F.args_list_pop_2 _ _)
    (MeetsSeq.list_pop_at l its.toArray n i t k w (fitsIndex_both h1 h2) (by rw [List.size_toArray, ← hl]; exact hk) (by rw [← Array.getElem?_toList]; exact hw) (by rw [List.size_toArray]; omega)) ⟨e, ?_⟩
  refine ⟨y, _, I.lset (its' := its.eraseIdx k) hH e ?_ (r.eraseIdx k) ?_, rw', q⟩
  · show its.toArray.eraseIdxIfInBounds k = (its.eraseIdx k).toArray
    rw [List.eraseIdxIfInBounds_toArray]
  · have := len_erase xs k
    omega

def rReverse : V → List V → Hp → VK → Prop := fun x vs H Q => ∃ l xs, x = .ref l ∧ vs = [] ∧ H l = some (.lst xs) ∧ Q .non (upd H l (.lst xs.reverse))
theorem mt_reverse : MtM X "list.reverse" rReverse := by
  intro pins s σ H x vs v us Q I rx rv h
  obtain ⟨l, xs, rfl, rfl, hH, q⟩ := h
  cases rx
  have hus := rv.zero
  subst hus
  obtain ⟨z, its, n, r, hl, e⟩ := I.lstM hH
  refine call_meets F.slot_list_reverse ⟨_, e, rfl⟩ F.entry_list_reverse (F.args_list_reverse_1 _) (AutoSeq1.list_reverse_list_0 l its.toArray n (by rw [List.size_toArray]; omega)) ⟨e, ?_⟩
  refine ⟨.non, _, I.lset (its' := its.reverse) hH e (by simp) r.reverse ?_, rfl, q⟩
  rw [List.length_reverse]
  omega

def rClear : V → List V → Hp → VK → Prop := fun x vs H Q => ∃ l xs, x = .ref l ∧ vs = [] ∧ H l = some (.lst xs) ∧ Q .non (upd H l (.lst []))
theorem mt_clear : MtM X "list.clear" rClear := by
  intro pins s σ H x vs v us Q I rx rv h
  obtain ⟨l, xs, rfl, rfl, hH, q⟩ := h
  cases rx
  have hus := rv.zero
  subst hus
  obtain ⟨z, its, n, r, hl, e⟩ := I.lstM hH
  refine call_meets F.slot_list_clear ⟨_, e, rfl⟩ F.entry_list_clear (F.args_list_clear_1 _) (AutoSeq1.list_clear_list_0 l its.toArray n (by rw [List.size_toArray]; omega)) ⟨e, ?_⟩
  exact ⟨.non, _, I.lset (its' := []) (ys := []) hH e rfl .nil (Nat.zero_le _), rfl, q⟩

/-! ### list + list, list += list, list * int -/
def rCat : R2 := fun x y H Q => ∃ l b xs zs, x = .ref l ∧ y = .ref b ∧ H l = some (.lst xs) ∧ H b = some (.lst zs) ∧ xs.length + zs.length ≤ sizeLine ∧ ∀ p, H p = none → Q (.ref p) (upd H p (.lst (xs ++ zs)))
theorem op_cat : OpR X (binaryOp .Add) rCat := by
  intro pins s σ H x y v u Q I rx ry h
  obtain ⟨l, b, xs, zs, rfl, rfl, hH, hB, hz, q⟩ := h
  cases rx
  cases ry
  obtain ⟨z, its, n, r, hl, e⟩ := I.lstM hH
  obtain ⟨z2, its2, n2, r2, hl2, e2⟩ := I.lstM hB
  refine PySem.P.add_list e e2 ?_ (by rw [List.size_toArray, List.size_toArray]; omega)
  have ea : its.toArray ++ its2.toArray = (its ++ its2).toArray := by simp
  rw [ea]
  exact ⟨.ref _, _, I.lnew (t' := s.toks) (r.append r2) (by rw [List.length_append]; omega), rfl, q _ I.fresh⟩
/-- a list times an int (a negative one is nothing) -/
def rRep : R2 := fun x y H Q => ∃ l k xs, x = .ref l ∧ y = .int k ∧ H l = some (.lst xs) ∧ -(2 ^ 63) ≤ k ∧ k < 2 ^ 63 ∧ xs.length * k.toNat ≤ sizeLine ∧
  ∀ p, H p = none → Q (.ref p) (upd H p (.lst (List.replicate k.toNat xs).flatten))
theorem len_rep {α : Type} (xs : List α) (k : Nat) : (List.replicate k xs).flatten.length = k * xs.length := by
  induction k with
  | zero => simp
  | succ k ih => rw [List.replicate_succ, List.flatten_cons, List.length_append, ih, Nat.succ_mul, Nat.add_comm]
theorem op_rep : OpR X (binaryOp .Mult) rRep := by
  intro pins s σ H x y v u Q I rx ry h
  obtain ⟨l, k, xs, rfl, rfl, hH, h1, h2, hz, q⟩ := h
  cases rx
  obtain ⟨t, rfl⟩ := ry
  obtain ⟨z, its, n, r, hl, e⟩ := I.lstM hH
  have hlen : its.toArray.size * k.toNat ≤ sizeLine := by rw [List.size_toArray, ← hl]; exact hz
  have hcap : ¬ its.toArray.size * k.toNat > (2 ^ 63 - 1) / 8 := by
    have : (sizeLine : Nat) ≤ (2 ^ 63 - 1) / 8 := by decide
    omega
  have hfit : ¬ (!Builtin.List.listFitsIndex k) = true := by
    rw [fitsIndex_both h1 h2]
    exact Bool.false_ne_true
  have hlong : ¬ Builtin.List.listTooLong (its.toArray.size * k.toNat) = true := by
    rw [notLongL hlen]
    exact Bool.false_ne_true
  have hnew : List.foldl (fun x1 x2 => x1 ++ x2) #[] (List.replicate (if its.toArray.isEmpty = true then 0 else k.toNat) its.toArray) = (List.replicate k.toNat its).flatten.toArray := by
    have f0 : ∀ m : Nat, List.foldl (fun x1 x2 => x1 ++ x2) #[] (List.replicate m its.toArray) = (List.replicate m its).flatten.toArray := fun m => by
      have := foldl_rep its m []
      rw [List.nil_append] at this
      exact this
    rw [f0]
    cases its with
    | nil => simp
    | cons a r' => rw [if_neg (by simp)]
  refine wpAny_binaryOp_repeat_ref (T := "list") (U := "int") (by decide) ⟨_, e, rfl⟩ (fun s' => typeIs_int s' k t) noFill_list_mul F.fills_int_mul F.slot_int_rmul repeat_list F.slot_int_index.lookup
    (call_meets F.slot_int_rmul (typeIs_int s k t) F.entry_int_rmul (F.args_int_rmul_2 _ _) (int___rmul___int_list k t l its.toArray n)
      ⟨e, rfl, ⟨_, e, rfl⟩, call_meets F.slot_list_mul ⟨_, e, rfl⟩ F.entry_list_mul (F.args_list_mul_2 _ _) (AutoListH.list___mul___list_int_3 l its.toArray n k t hfit hcap hlong) ⟨e, ?_⟩⟩)
  rw [hnew]
  exact ⟨.ref _, _, I.lnew (t' := s.toks) (r.rep k.toNat) (by rw [len_rep, Nat.mul_comm]; exact hz), rfl, q _ I.fresh⟩

/-! ### del xs[i] -/
theorem del_list {pins : List (Addr × Obj)} {s : Shared} {σ : St} {H : Hp} {l : Addr} {xs : List V} {i : Int} {t : Tok} {k : Nat} {Q : Unit → Shared → Prop} (I : Inv X pins σ H s) (hH : H l = some (.lst xs))
    (h1 : -(2 ^ 63) ≤ i) (h2 : i < 2 ^ 63) (hk : seqIndex? i xs.length = some k) (h : ∀ s', Inv X pins σ (upd H l (.lst (xs.eraseIdx k))) s' → Q () s') :
    wpAny (model X.prog X.w) X.A (delItem (.ref l) (.int i t)) Q X.xe s := by
  obtain ⟨z, its, n, r, hl, e⟩ := I.lstM hH
  refine PySem.P.delItem_list (k := k) e (fitsIndex_both h1 h2) (by rw [List.size_toArray, ← hl]; exact hk) (h _ ?_) (by rw [List.size_toArray]; omega)
  refine I.lset (its' := its.eraseIdx k) (t' := s.toks) hH e ?_ (r.eraseIdx k) ?_
  · show its.toArray.eraseIdxIfInBounds k = (its.eraseIdx k).toArray
    rw [List.eraseIdxIfInBounds_toArray]
  · have := len_erase xs k
    omega
end

/-! ### xs[a:b] = ys -/
section
variable {prog : Program} {w : World} {A : Around} {E : Value → Shared → Prop} {s : Shared}
theorem splice_eq (its its2 : List Value) (a c : Nat) : its.toArray.extract 0 a ++ its2.toArray ++ its.toArray.extract c its.toArray.size = (its.take a ++ its2 ++ its.drop c).toArray := by
  apply Array.toList_inj.mp
  first
    | (simp
       exact List.take_of_length_le (by simp))
    | simp [List.take_of_length_le]
    | simp
theorem bounds_run {a c n : Nat} (hac : a ≤ c) (hc : c ≤ n) : sliceBounds (some (a : Int)) (some (c : Int)) none n = ((a : Int), (c : Int), 1) := by
  simp only [sliceBounds, Option.getD_none]
  have h1 : ¬ ((a : Int) < 0) := by omega
  have h2 : ¬ ((c : Int) < 0) := by omega
  simp only [h1, h2, if_false, show (1 : Int) > 0 by decide, if_true]
  congr 1
  · omega
  · congr 1; omega
set_option maxRecDepth 100000 in
/-- list.__setitem__ with a slice of step one and another list -/
theorem setItem_slice {l b sl : Addr} {items new : Array Value} {n n2 : Nat} {vl vu : Value} {a c : Nat} {Q : Unit → Shared → Prop}
    (e : s.heap.get? l = some { cls := .type "list", data := .seq items n }) (e2 : s.heap.get? b = some { cls := .type "list", data := .seq new n2 }) (hne : l ≠ b)
    (hs : s.heap.IsSliceOf sl vl vu .none) (pl : IsPart vl (some (a : Int))) (pu : IsPart vu (some (c : Int))) (hac : a ≤ c) (hc : c ≤ items.size)
    (hsz : items.size + new.size ≤ sizeLine) (h : Q () { s with heap := s.heap.update l (Obj.mapSeq fun xs => xs.extract 0 a ++ new ++ xs.extract c xs.size) }) :
    wpAny (model prog w) A (setItem (.ref l) (.ref sl) (.ref b)) Q E s := by
  have hl : s.heap.IsList l items := PySem.IsL.isList e
  have hb : s.heap.IsList b new := PySem.IsL.isList e2
  obtain ⟨os, hos, hcs, hds⟩ := id hs
  have hTs : s.TypeIs (.ref sl) "slice" := ⟨os, hos, hcs⟩
  have hstep : ¬ ((rawPart none == rawInt 0) = true) := Bool.false_ne_true
  have hsame : Builtin.List.listSameRef (.ref l) (.ref b) = false := by
    unfold Builtin.List.listSameRef
    exact beq_eq_false_iff_ne.mpr hne
  have hmax : (max (a : Int) (c : Int)).toNat = c := by omega
  have hz' : ((fun xs : Array Value => xs.extract 0 a ++ new ++ xs.extract c xs.size) items).size ≤ sizeLine + 1 := by
    simp only [Array.size_append, Array.size_extract]
    omega
  unfold setItem
  try with_reducible refine wpAny_holding ?_
  first | refine wpAny_bind (wpAny_pure ?_) | skip
  refine wpAny_bind (wpAny_sequenceKey hl.typeIs (by decide) ?_)
  refine wpAny_bind (wpAny_callSpecial?_slot (name := Str.ofString "__setitem__") hl.typeIs slot_list_setitem
    (wpAny_call_entry slot_list_setitem hl.typeIs entry_list_setitem ?_ (args_list_setitem _ _ _)))
  show wpAny _ _ (Builtin.List.listSubscript? (.ref sl) >>= _) _ _ s
  refine wpAny_bind ?_
  unfold Builtin.List.listSubscript?
  refine wpAny_bind (wpAny_specialOf hTs slice_no_index ?_)
  simp only [Option.isNone_none, if_true]
  refine wpAny_pure ?_
  show wpAny _ _ (typeOf (.ref sl) >>= _) _ _ s
  refine wpAny_bind (wpAny_typeOf hTs ?_)
  first
    | rw [if_neg (by decide)]
    | refine PySem.W.KFB.if_not (by decide) ?_
  rw [listSliceParts_eq]
  refine wpAny_bind (wpAny_bind (wpAny_field hos hds (x := .none) rfl (wpAny_bind (wpAny_listPart .none ?_))))
  rw [if_neg hstep]
  refine wpAny_bind (wpAny_field hos hds (x := vl) rfl (wpAny_bind (wpAny_listPart pl ?_)))
  refine wpAny_bind (wpAny_field hos hds (x := vu) rfl (wpAny_bind (wpAny_listPart pu (wpAny_pure ?_))))
  first
    | simp only [hsame, Bool.false_eq_true, if_false]
    | refine PySem.W.KFB.if_not hsame ?_
    | (dsimp only
       rw [if_neg (by rw [hsame]; exact Bool.false_ne_true)])
  refine wpAny_bind (m := Builtin.List.listAllItems (.ref b) "must assign iterable to extended slice") ?_
  unfold Builtin.List.listAllItems
  refine wpAny_bind (wpAny_typeOf hb.typeIs ?_)
  first
    | refine PySem.W.KFB.if_so (by decide) ?_
    | rw [if_pos (by decide)]
    | simp only [beq_self_eq_true, Bool.true_or, if_true]
  unfold Builtin.List.listItems
  refine wpAny_bind (wpAny_seqItems e2 rfl (wpAny_pure ?_))
  refine wpAny_bind (wpAny_bind (wpAny_seqItems e rfl (wpAny_pure ?_)))
  refine wpAny_bind (wpAny_of_eq ((sliceIndices_raw (some (a : Int)) (some (c : Int)) none items.size (by simp)).trans (congrArg (pure : Int × Int × Int → Sem (Int × Int × Int)) (bounds_run hac hc))) ?_)
  show wpAny _ _ (if ((1 : Int) == 1) = true then _ else _) _ _ s
  rw [if_pos (by decide)]
  refine wpAny_bind (wpAny_rule ?_)
  first
    | simp only [notLongL hsz, Bool.false_eq_true, if_false]
    | refine PySem.W.KFB.if_not (notLongL hsz) ?_
  first | refine wpAny_bind (wpAny_pure ?_) | skip
  show wpAny _ _ (updateSeq l (fun xs => xs.extract 0 ((a : Int)).toNat ++ new ++ xs.extract (max (a : Int) (c : Int)).toNat xs.size) >>= _) _ _ s
  rw [hmax, Int.toNat_natCast]
  refine wpAny_bind (wpAny_updateSeq (hz := Nat.le_trans (Nat.le_add_right _ _) hsz) (_hz' := hz') e rfl ?_)
  refine wpAny_bind (wpAny_letGo ?_)
  first
    | exact wpAny_bind (wpAny_pure (wpAny_pure ⟨.none, rfl, wpAny_pure h⟩))
    | exact wpAny_pure ⟨.none, rfl, wpAny_pure h⟩
end

section
variable {X : Cx}
/-- xs[a:c] = ys of another list, at the value level: sl is the slice object that was just made -/
theorem set_slice {pins : List (Addr × Obj)} {s : Shared} {σ : St} {H : Hp} {l b sl : Addr} {xs ys : List V} {a c : Int} {vl vu : Value} {Q : Unit → Shared → Prop} (I : Inv X pins σ H s)
    (hH : H l = some (.lst xs)) (hB : H b = some (.lst ys)) (hne : l ≠ b) (hs : s.heap.IsSliceOf sl vl vu .none) (ra : RelV (.int a) vl) (rc : RelV (.int c) vu) (h0 : 0 ≤ a) (hac : a ≤ c) (hc : c ≤ xs.length)
    (hz : xs.length + ys.length ≤ sizeLine) (h : ∀ s', Inv X pins σ (upd H l (.lst (xs.take a.toNat ++ ys ++ xs.drop c.toNat))) s' → Q () s') :
    wpAny (model X.prog X.w) X.A (setItem (.ref l) (.ref sl) (.ref b)) Q X.xe s := by
  obtain ⟨ta, rfl⟩ := ra
  obtain ⟨tc, rfl⟩ := rc
  obtain ⟨z, its, n, r, hl, e⟩ := I.lstM hH
  obtain ⟨z2, its2, n2, r2, hl2, e2⟩ := I.lstM hB
  obtain ⟨a', rfl⟩ := Int.eq_ofNat_of_zero_le h0
  obtain ⟨c', rfl⟩ := Int.eq_ofNat_of_zero_le (Int.le_trans h0 hac)
  simp only [Int.toNat_natCast] at h
  refine setItem_slice (a := a') (c := c') e e2 hne hs (.int _ _) (.int _ _) (by omega) (by rw [List.size_toArray]; omega) (by rw [List.size_toArray, List.size_toArray]; omega) (h _ ?_)
  refine I.lset (its' := its.take a' ++ its2 ++ its.drop c') (t' := s.toks) hH e ?_ (Vals.append (Vals.append (r.take _) r2) (r.drop _)) ?_
  · exact splice_eq its its2 a' c'
  · rw [List.length_append, List.length_append, List.length_take, List.length_drop]
    omega
end
end L2

namespace Att
open PySem PySem.W PySem.Calls PyProof.Rows

/-! ### the script -/
theorem ints_of_wellAll {P : Params} {h : Heap} : ∀ (ns : List Int) (vs : List Value), WellAll P h vs (ns.map WData.int) → IntsAre vs ns := by
  intro ns
  induction ns with
  | nil =>
    intro vs w
    rw [List.map_nil] at w
    cases w
    exact .nil
  | cons n ns ih =>
    intro vs w
    rw [List.map_cons] at w
    cases w with
    | cons a b =>
      cases a
      exact .cons _ _ (ih _ b)

theorem script_of {l : OpenLaw} {n : Nat} (hn : l.most = some n) {P : Params} {h : Heap} {args : List WData} {vals : List Value}
    (hpre : l.row.toRowW.claim.pre args = true) (hwl : WellAll P h vals args) :
    ∃ a vs ns, vals = [Value.ref a] ∧ args = [WData.list (ns.map WData.int)] ∧ h.get? a = some { cls := .type "list", data := .seq vs.toArray } ∧ IntsAre vs ns ∧ ns.length ≤ n := by
  have hsh : WShape.hasAll [] args [.list .int] = true := (pre_splitW hpre).1
  have hc : l.pre.holds [] { args := args } = true := (pre_splitW hpre).2
  obtain ⟨d, r, rfl, h1, h2⟩ := hasAllW_cons hsh
  obtain rfl := hasAllW_nil h2
  obtain ⟨xs, rfl, h3⟩ := hasW_list h1
  obtain ⟨ns, rfl⟩ := items_int h3
  have hlen : ns.length ≤ n := by
    unfold OpenLaw.pre at hc
    have h4 : (WTm.not (.lt (.lit (.int (n : Int))) (.len (.arg 0)))).holds [] { args := [.list (ns.map .int)] } = true := by
      have h4 := (holds_andW hc).1
      rw [hn] at h4
      exact h4
    have h5 := condW_of h4 (w_not (w_lt w_lit (w_len_list (w_arg rfl))))
    rw [List.length_map] at h5
    refine Nat.le_of_not_lt fun q => ?_
    have q' : (n : Int) < ((ns.length : Nat) : Int) := by omega
    first
      | (rw [decide_eq_true q'] at h5; exact absurd h5 (by decide))
      | (simp at h5; omega)
  cases hwl with
  | cons w1 w2 =>
    cases w2
    cases w1 with
    | list ho hall => exact ⟨_, _, ns, rfl, rfl, ho, ints_of_wellAll ns _ hall, hlen⟩

theorem post_true (l : OpenLaw) (args : List WData) : l.row.toRowW.claim.post args (.bool true) args = true :=
  postW_of (r := l.row.toRowW) (X := (true == true))
    (show WShape.has [] (.bool true) .bool = true by first | rfl | decide | simp [WShape.has, WShape.arms, WShape.armsAll])
    (show (WTm.eq .res (.lit (.bool true))).value [] { args := args, res := some (.bool true), after := args } = some (.bool (true == true)) from w_eq_bool (w_res rfl) w_lit) rfl

/-! ### the attachment: holds_open's last premise (the goal 'hc' behind k_head) from a wpAny of the law's body -/
theorem attach {l : OpenLaw} {n : Nat} {q : Program} {loose : List Str} {XP : (Str → Option Value) → Heap → Prop} {YP : World → Heap → Prop} {d : DefRec} {x : Str}
    (hn : l.most = some n) (hdf : d.params.defaults = [])
    (hbind : ∀ pm cd doc v : Value, bindArgs (docDef d.name d.params d.body d.scope pm cd doc) ⟨[v], []⟩ = pure [(x, v)])
    (hx : d.scope.names.lookup x = some .local ∨ d.scope.names.lookup x = some .cell)
    (hk : d.scope.kind = .function) (hco : d.scope.isCoroutine = false) (hgen : d.scope.isGenerator = false)
    (body : ∀ (w : World) (s₀ s₁ s : Shared) (mg mb : Str → Option Value) (fa : Addr) (o : Obj) (pm cd doc : Value) (a : Addr) (vs : List Value) (ns : List Int),
      Ground q loose [] XP w s₀ mg mb s₁.heap → YP w s₁.heap →
      s₁.heap.get? fa = some o → o.data = .func (docDef d.name d.params d.body d.scope pm cd doc) → s₁.heap.CodeRec cd d.name → mg d.name = some (.ref fa) →
      s₁.heap.get? a = some { cls := .type "list", data := .seq vs.toArray } → IntsAre vs ns → ns.length ≤ n →
      s.gens = #[] → s.os = s₁.os →
      Fr s₁.heap s₁.heap.objs.size s.heap (bindL (envOfC d.name d.scope s₁.heap.objs.size fa cd).kindOf [(x, .ref a)] fun _ => none) →
      Cl s₁.heap.objs.size (cellsFrom (s₁.heap.objs.size + 1) d.scope.names []) s.heap (bindC (envOfC d.name d.scope s₁.heap.objs.size fa cd).kindOf [(x, .ref a)] fun _ => none) →
      wpAny (model l.prog w) (callerA.deeper (envOfC d.name d.scope s₁.heap.objs.size fa cd)) (execs d.body (envOfC d.name d.scope s₁.heap.objs.size fa cd))
        (fun f s' => f = .ret (.bool true) ∧ OldK s₁.heap s'.heap ∧ s'.os = s₁.os ∧ AllBare s'.gens) (fun _ _ => False) s) :
    WalkO q loose XP YP l.row.toRowW d [] (fun f vs => PySem.call f vs) := by
  intro w s₀ s₁ mg mb G Y fa o pm cd doc dV kV ho hd hcd hD hmg hg args vals as hpre hlay hrd hwl hlo
  obtain rfl : dV = .none := Dflts.none hD hdf
  obtain rfl : kV = .none := Dflts.noKw hD
  obtain ⟨a, vs, ns, rfl, rfl, hobj, hints, hlen⟩ := script_of hn hpre hwl
  refine enter_call ?_
  refine call_cells_ret (o := o) (by rw [depth_caller]; decide) ho (fd_plain hd) G.T.nolimit hcd (hbind pm cd doc (.ref a)) (fun y hy => ?_) (fun h₁ tk F X => ?_) hco hgen hk
  · obtain rfl : y = (x, Value.ref a) := List.mem_singleton.mp hy
    rcases hx with e | e
    · exact .inl e
    · exact .inr ⟨e, cellsFrom_some _ _ _ (.inl e)⟩
  · refine wpAny_mono (body w s₀ s₁ { s₁ with heap := h₁, toks := tk } mg mb fa o pm cd doc a vs ns G Y ho (fd_plain hd) hcd hmg hobj hints hlen hg rfl F X) (fun f s' hq => ?_) (fun _ _ hq => hq)
    obtain ⟨rfl, h2, h3, h4⟩ := hq
    exact ⟨.inl ⟨.bool true, .bool true, [], rfl, fun _ => rfl, .bool true, post_true l _, fun _ => ⟨List.Pairwise.nil, fun _ hm => (nomatch hm)⟩⟩, h2, h3, h4⟩

/-- the same from a codeAny of the CALL (for a layer whose function contracts speak of calls) -/
theorem attach_call {l : OpenLaw} {n : Nat} {q : Program} {loose : List Str} {XP : (Str → Option Value) → Heap → Prop} {YP : World → Heap → Prop} {d : DefRec}
    (hn : l.most = some n) (hdf : d.params.defaults = [])
    (call : ∀ (w : World) (s₀ s₁ : Shared) (mg mb : Str → Option Value) (fa : Addr) (o : Obj) (pm cd doc : Value) (a : Addr) (vs : List Value) (ns : List Int),
      Ground q loose [] XP w s₀ mg mb s₁.heap → YP w s₁.heap →
      s₁.heap.get? fa = some o → o.data = .func (docDef d.name d.params d.body d.scope pm cd doc) → s₁.heap.CodeRec cd d.name → mg d.name = some (.ref fa) →
      s₁.heap.get? a = some { cls := .type "list", data := .seq vs.toArray } → IntsAre vs ns → ns.length ≤ n → s₁.gens = #[] →
      codeAny (model l.prog w) callerA (.call (.ref fa) ⟨[.ref a], []⟩) (fun r s' => r = .ok (.ret (.bool true)) ∧ OldK s₁.heap s'.heap ∧ s'.os = s₁.os ∧ AllBare s'.gens) s₁) :
    WalkO q loose XP YP l.row.toRowW d [] (fun f vs => PySem.call f vs) := by
  intro w s₀ s₁ mg mb G Y fa o pm cd doc dV kV ho hd hcd hD hmg hg args vals as hpre hlay hrd hwl hlo
  obtain rfl : dV = .none := Dflts.none hD hdf
  obtain rfl : kV = .none := Dflts.noKw hD
  obtain ⟨a, vs, ns, rfl, rfl, hobj, hints, hlen⟩ := script_of hn hpre hwl
  refine enter_call (codeAny_mono (call w s₀ s₁ mg mb fa o pm cd doc a vs ns G Y ho (fd_plain hd) hcd hmg hobj hints hlen hg) fun r s' hq => ?_)
  obtain ⟨rfl, h2, h3, h4⟩ := hq
  exact ⟨.inl ⟨.bool true, .bool true, [], rfl, fun _ => rfl, .bool true, post_true l _, fun _ => ⟨List.Pairwise.nil, fun _ hm => (nomatch hm)⟩⟩, h2, h3, h4⟩

/-- the same where the top left finished generators (o_head chose holds_openN): nothing may have changed at all and no generator may be left -/
theorem attachN {l : OpenLaw} {n : Nat} {q : Program} {loose : List Str} {XP : (Str → Option Value) → Heap → Prop} {YP : World → Heap → Prop} {d : DefRec} {x : Str}
    (hn : l.most = some n) (hdf : d.params.defaults = [])
    (hbind : ∀ pm cd doc v : Value, bindArgs (docDef d.name d.params d.body d.scope pm cd doc) ⟨[v], []⟩ = pure [(x, v)])
    (hx : d.scope.names.lookup x = some .local ∨ d.scope.names.lookup x = some .cell)
    (hk : d.scope.kind = .function) (hco : d.scope.isCoroutine = false) (hgen : d.scope.isGenerator = false)
    (body : ∀ (w : World) (s₀ s₁ s : Shared) (mg mb : Str → Option Value) (fa : Addr) (o : Obj) (pm cd doc : Value) (a : Addr) (vs : List Value) (ns : List Int),
      Ground q loose [] XP w s₀ mg mb s₁.heap → YP w s₁.heap →
      s₁.heap.get? fa = some o → o.data = .func (docDef d.name d.params d.body d.scope pm cd doc) → s₁.heap.CodeRec cd d.name → mg d.name = some (.ref fa) →
      s₁.heap.get? a = some { cls := .type "list", data := .seq vs.toArray } → IntsAre vs ns → ns.length ≤ n →
      s.gens = #[] → s.os = s₁.os →
      Fr s₁.heap s₁.heap.objs.size s.heap (bindL (envOfC d.name d.scope s₁.heap.objs.size fa cd).kindOf [(x, .ref a)] fun _ => none) →
      Cl s₁.heap.objs.size (cellsFrom (s₁.heap.objs.size + 1) d.scope.names []) s.heap (bindC (envOfC d.name d.scope s₁.heap.objs.size fa cd).kindOf [(x, .ref a)] fun _ => none) →
      wpAny (model l.prog w) (callerA.deeper (envOfC d.name d.scope s₁.heap.objs.size fa cd)) (execs d.body (envOfC d.name d.scope s₁.heap.objs.size fa cd))
        (fun f s' => f = .ret (.bool true) ∧ (∀ b o, s₁.heap.get? b = some o → s'.heap.get? b = some o) ∧ s'.os = s₁.os ∧ s'.gens = #[]) (fun _ _ => False) s) :
    WalkN q loose XP YP l.row.toRowW d [] (fun f vs => PySem.call f vs) := by
  intro w s₀ s₁ mg mb G Y fa o pm cd doc dV kV ho hd hcd hD hmg hg args vals as hpre hlay hrd hwl hlo
  obtain rfl : dV = .none := Dflts.none hD hdf
  obtain rfl : kV = .none := Dflts.noKw hD
  obtain ⟨a, vs, ns, rfl, rfl, hobj, hints, hlen⟩ := script_of hn hpre hwl
  refine enter_callW ?_
  refine call_cells_ret (o := o) (by rw [depth_caller]; decide) ho (fd_plain hd) G.T.nolimit hcd (hbind pm cd doc (.ref a)) (fun y hy => ?_) (fun h₁ tk F X => ?_) hco hgen hk
  · obtain rfl : y = (x, Value.ref a) := List.mem_singleton.mp hy
    rcases hx with e | e
    · exact .inl e
    · exact .inr ⟨e, cellsFrom_some _ _ _ (.inl e)⟩
  · refine wpAny_mono (body w s₀ s₁ { s₁ with heap := h₁, toks := tk } mg mb fa o pm cd doc a vs ns G Y ho (fd_plain hd) hcd hmg hobj hints hlen hg rfl F X) (fun f s' hq => ?_) (fun _ _ hq => hq)
    obtain ⟨rfl, h2, h3, h4⟩ := hq
    exact ⟨.inl ⟨.bool true, .bool true, [], rfl, fun _ => rfl, .bool true, post_true l _, fun _ => ⟨List.Pairwise.nil, fun _ hm => (nomatch hm)⟩⟩, h2, h3, h4⟩

/-! ### rules over ANY heap (no ledger) from facts about the written part K: the library's own take a ledger (News) for what they write -/
section
variable {prog : Program} {w : World} {A : Around} {E : Value → Shared → Prop} {s : Shared} {K : Frag}

/-- a def of the module, or a method (qual 'C.m'), entered: the frame is the next address; cells behind it -/
theorem call_fn {R : Result → Shared → Prop} {name qual : Str} {params : Arguments} {body : List Stmt} {scope : Scope} {dV kV doc pm cdv ct oc : Value} {an od : Option Addr} {osl : Array (Option Value)} {f : Addr} {args : Args} {binds : List (Str × Value)}
    (X : K.In s.heap) (hlim : s.heap.NoLimit) (ho : K.lookup f = some ⟨oc, od, .func (fnOf name qual params body scope dV kV doc pm an cdv ct), osl⟩) (hcd : codeIn K cdv qual = true) (hroom : A.depth < recursionLimit)
    (hbind : BindsTo s (fnOf name qual params body scope dV kV doc pm an cdv ct) args binds)
    (hkind : (binds.all fun y => scope.names.lookup y.1 == some .local || scope.names.lookup y.1 == some .cell) = true)
    (h : ∀ s₁, InCallC s s.heap.objs.size (bindL (envOfC qual scope s.heap.objs.size f cdv).kindOf binds fun _ => none) (cellsFrom (s.heap.objs.size + 1) scope.names [])
        (bindC (envOfC qual scope s.heap.objs.size f cdv).kindOf binds fun _ => none) s₁ →
      wpAny (model prog w) (A.deeper (envOfC qual scope s.heap.objs.size f cdv)) (execs body (envOfC qual scope s.heap.objs.size f cdv))
        (fun fl s' => R (.ok (.ret (match fl with | .ret v => v | _ => .none))) s')
        (fun e s' => wpAny (model prog w) (A.deeper (envOfC qual scope s.heap.objs.size f cdv)) (leaving (envOfC qual scope s.heap.objs.size f cdv) e) (fun _ s'' => R (.error e) s'') (fun e' s'' => R (.error e') s'') s') s₁)
    (hco : scope.isCoroutine = false) (hgen : scope.isGenerator = false) (hk : scope.kind = .function) : codeAny (model prog w) A (.call (.ref f) args) R s := by
  refine codeAny_call_function hroom (X _ _ ho) rfl hco hgen rfl (codeRec_of X hcd) (hbind _ _ _ _ ?_)
  refine wpAny_newFunctionEnv_cells hk (kindsX hkind _) fun env he s₁ x => ?_
  subst he
  exact ⟨hlim.keeps x.toInCall.keep, codeAny_func (h s₁ x)⟩

/-- C(..): dict at size, instance at size + 1, then __init__ -/
theorem make_obj {R : Result → Shared → Prop} {C fI : Addr} {rest : List Value} {kw : List (Str × Value)}
    (X : K.In s.heap) (hm : makesIn K C = true) (hi : findIn K (.ref C) "__init__" = some (some (.ref fI))) (hf : isFn K (.ref fI) = true)
    (h : codeAny (model prog w) (A.under (.builtin "type.__call__" ⟨.ref C :: rest, kw⟩)) (.call (.ref fI) ⟨.ref (s.heap.objs.size + 1) :: rest, kw⟩) (InitBack (s.heap.objs.size + 1) R)
      { s with heap := (s.heap.push emptyDict).push (instObj C s.heap.objs.size) }) : codeAny (model prog w) A (.call (.ref C) ⟨rest, kw⟩) R s := by
  obtain ⟨hh, g, d, t, os⟩ := s
  exact make_core (makes_of X hm) (looks_findIn X hi) (fun self => bind_fn X self (beq_iff_eq.mp hf)) (.inl rfl) h

/-- x.name where the instance's dict holds the name and the class does not -/
theorem get_field {x C : Addr} {ox : Obj} {es : List DictEntry} {n : Nat} {name : Str} {expr : Bool} {v : Value} {Q : Value → Shared → Prop}
    (X : K.In s.heap) (I : PySem.W.InstAt s.heap x ox C (some (dictOf es n))) (hg : plainGet K C name = true) (hh : hasDictIn K C = true) (ha : findIn K (.ref C) name = some none)
    (hl : getL name es = some (some v)) (hv : handedIn v = true) (h : Q v { s with toks := s.toks + 1 }) : wpAny (model prog w) A (getAttr (.ref x) name expr) Q E s :=
  get_value X I (plainGet_of hg).1 (findObj_own hh ha rfl hl) hv h

/-- x.m(..): the method found in the class -/
theorem get_method {x C f : Addr} {ox : Obj} {es : List DictEntry} {n : Nat} {name : Str} {pl : Sem Bool} {Q : Value × List Value → Shared → Prop}
    (X : K.In s.heap) (I : PySem.W.InstAt s.heap x ox C (some (dictOf es n))) (hg : plainGet K C name = true) (hf : findIn K (.ref C) name = some (some (.ref f))) (ht : isFn K (.ref f) = true)
    (hl : getL name es = some none) (h : Q (.ref f, [.ref x]) s) : wpAny (model prog w) A (getMethod (.ref x) name pl) Q E s :=
  method_fn X I (plainGet_of hg).1 (plainGet_of hg).2 hf (beq_iff_eq.mp ht) (by show (lookIn name (dictOf es n)).map _ = _; rw [lookIn_dict, hl]; rfl) h

/-! the whole heap as the ledger: makes every rule that writes through a ledger a rule over any heap -/
def noObjs (h : Heap) : Heap := { h with objs := #[] }
theorem noObjs_get (h : Heap) (b : Addr) : (noObjs h).get? b = none := by
  cases e : (noObjs h).get? b with
  | none => rfl
  | some o => exact absurd (Heap.lt_size e) (Nat.not_lt_zero _)
def ledger (h : Heap) (L d : Addr) : List (Addr × Obj) := (List.range h.objs.size).filterMap fun a => if a = L ∨ a = d then none else (h.get? a).map fun o => (a, o)
theorem mem_ledger {h : Heap} {L d a : Addr} {o : Obj} : (a, o) ∈ ledger h L d ↔ a ≠ L ∧ a ≠ d ∧ h.get? a = some o := by
  unfold ledger
  rw [List.mem_filterMap]
  constructor
  · rintro ⟨b, _, e⟩
    split at e
    · cases e
    · rename_i hb
      obtain ⟨o', ho, e'⟩ := Option.map_eq_some_iff.mp e
      cases e'
      exact ⟨fun q => hb (.inl q), fun q => hb (.inr q), ho⟩
  · rintro ⟨n1, n2, ho⟩
    refine ⟨a, List.mem_range.mpr (Heap.lt_size ho), ?_⟩
    rw [if_neg (show ¬ (a = L ∨ a = d) from fun q => q.elim n1 n2), ho] <;> rfl
theorem news_ledger {h : Heap} {L d : Addr} {od : Obj} (hne : d ≠ L) (ho : h.get? d = some od) : News (noObjs h) L h ([] ++ (d, od) :: ledger h L d) := by
  rintro ⟨a, o⟩ hp
  rcases List.mem_cons.mp hp with e | hp
  · cases e
    exact ⟨ho, hne, noObjs_get _ _⟩
  · obtain ⟨n1, n2, e⟩ := mem_ledger.mp hp
    exact ⟨e, n1, noObjs_get _ _⟩
theorem fr_all {h : Heap} {L : Addr} {m : Str → Option Value} (n : h.Ns L m) : Fr (noObjs h) L h m :=
  ⟨n, fun b o e => (by rw [noObjs_get] at e; cases e), Nat.zero_le _⟩
/-- Upd of the head entry (for append_K, setItem_K ..) -/
theorem upd_ledger {h : Heap} {L d : Addr} {o o' : Obj} : Upd d o o' ((d, o) :: ledger h L d) ((d, o') :: ledger h L d) :=
  .head fun ⟨_, _⟩ hp => (mem_ledger.mp hp).2.1

/-- x.name = v over any heap: L is any namespace of the heap (the frame's, say): its map stays, its object is not told; all else but the dict stays -/
theorem set_field {x C dx L : Addr} {ox : Obj} {m : Str → Option Value} {es es' : List DictEntry} {n n' : Nat} {name : Str} {v : Value} {Q : Unit → Shared → Prop}
    (X : K.In s.heap) (I : PySem.W.InstAt s.heap x ox C (some (dictOf es n))) (hd : ox.dict = some dx) (hL : s.heap.Ns L m) (hne : dx ≠ L)
    (hs : findIn K (.ref C) "__setattr__" = some (some (.builtin "object.__setattr__"))) (hp : plainOver K C = true) (ht : takerIn K C name = some none) (hh : hasDictIn K C = true) (hl : (getL name es).isSome = true)
    (e : (putL name (PyData.keyHash w.params name) (.str name (s.toks + 1)) v es, putN name es n) = (es', n')) (hz : es'.length ≤ 1000)
    (h : ∀ h' : Heap, h'.Ns L m → h'.get? dx = some (dictOf es' n') → (∀ b o, b ≠ dx → b ≠ L → s.heap.get? b = some o → h'.get? b = some o) → Q () { s with heap := h', toks := s.toks + 2 }) :
    wpAny (model prog w) A (setAttr (.ref x) name v) Q E s := by
  obtain ⟨e1, e2⟩ := Prod.mk.inj e
  have hdx : s.heap.get? dx = some (dictOf es n) := by
    have := I.dict
    rw [hd] at this
    exact this
  refine set_plain X I hs (osa_dict (s := { s with toks := s.toks + 1 }) (h₀ := noObjs s.heap) (L := L) (m := m) (od := dictOf es n) (od' := dictOf es' n') (es := es') (n := n') (pre := []) (post := ledger s.heap L dx)
    (fr_all hL) (news_ledger hne hdx) X I hd hp ht hh hl (fun _ q => nomatch q) (fun ⟨_, _⟩ q => (mem_ledger.mp q).2.1) (by rw [putName_dict, e1, e2]) rfl hz fun h' F' N' => ?_)
  exact h h' F'.ns (N'.get (List.Mem.head _)) fun b o n1 n2 ho => N'.get (List.Mem.tail _ (mem_ledger.mpr ⟨n2, n1, ho⟩))
end
end Att

namespace L2
open PySem PySem.Spec PyProof.Rows

theorem vals_ints : ∀ {vs : List Value} {ns : List Int}, IntsAre vs ns → Vals (ns.map V.int) vs
  | _, _, .nil => .nil
  | _, _, .cons n t h => .cons ⟨t, rfl⟩ (vals_ints h)

/-- nothing is tracked but the script, known to the object (or it is an object of the module) -/
def Only (H : Hp) : Prop := ∀ b, H b = none ∨ ∃ o xs, H b = some (.frz o (.lst xs))

/-- THE HEAD: the law's promise, at the heap behind the top. F, the promise of the law's def, may use that base is part of the heap (so K.In base, base.Ns mainGlobals mg stand in Mod) -/
theorem law_call {P : Program} {w : World} {K : PySem.W.Frag} {mg mb : Str → Option Value} {CX : CXT} {k : Nat} {fa a : Addr} {fd : FuncData} {x : Str} {sp : Sp} {s₁ : Shared} {vs : List Value} {ns : List Int}
    (KX : K.In s₁.heap) (hns : s₁.heap.Ns mainGlobals mg) (hb : s₁.heap.Ns builtinsNs mb) (hbb : ∀ x : Str, x ≠ "__name__" → mb x = bootBuiltins x) (hlim : s₁.heap.NoLimit) (hg : s₁.gens = #[])
    (ha : s₁.heap.get? a = some { cls := .type "list", data := .seq vs.toArray }) (hi : IntsAre vs ns) (hl : ns.length ≤ sizeLine) (hr : Room k callerA)
    (F : ∀ base : Heap, K.In base → base.Ns mainGlobals mg → FnOk P w K mg base CX k fa fd [x] sp) (hbind : ∀ (s : Shared) (u : Value), BindsTo s fd ⟨[u], []⟩ [(x, u)])
    (hsp : ∀ H : Hp, Only H → SqL K H a (ns.map V.int) → sp [.ref a] H (fun v _ => v = .bl true) fun _ _ _ => False)
    (hCX : ∀ H e s', CX [] H s₁ (fun _ _ _ => False) e s' → False) :
    codeAny (model P w) callerA (.call (.ref fa) ⟨[.ref a], []⟩) (fun r s' => r = .ok (.ret (.bool true)) ∧ OldK s₁.heap s'.heap ∧ s'.os = s₁.os ∧ AllBare s'.gens) s₁ := by
  have rv := vals_ints hi
  have lenV := hi.length
  -- from an abstract heap in which nothing but the script may be tracked
  have core : ∀ H : Hp, Only H → SqL K H a (ns.map V.int) → HOk P w H s₁.heap → (∀ b, H b ≠ none → b = a) → (H a ≠ none → K.lookup a = none) →
      codeAny (model P w) callerA (.call (.ref fa) ⟨[.ref a], []⟩) (fun r s' => r = .ok (.ret (.bool true)) ∧ OldK s₁.heap s'.heap ∧ s'.os = s₁.os ∧ AllBare s'.gens) s₁ := by
    intro H hO hS hok hA hK
    have base_of : ∀ {b : Addr} {o : Obj}, s₁.heap.get? b = some o → H b = none → (hidT s₁.heap H).get? b = some o := fun e n => hidT_get e n
    have noA : ∀ {b : Addr} {o : Obj} {es : Array DictEntry} {ep : Nat}, s₁.heap.get? b = some o → o.data = .dict es ep → H b = none := fun {b o es ep} e d => by
      cases q : H b with
      | none => rfl
      | some u =>
        have e' : b = a := hA b (by rw [q]; simp)
        subst e'
        rw [ha] at e; cases e
        have d' : Data.seq vs.toArray _ = Data.dict es ep := d
        cases d'
    have nsK : ∀ {b : Addr} {m : Str → Option Value}, s₁.heap.Ns b m → (hidT s₁.heap H).Ns b m := fun {b m} ⟨o, es, ep, e, d, r⟩ => ⟨o, es, ep, base_of e (noA e d), d, r⟩
    have hKb : K.In (hidT s₁.heap H) := fun b o e => base_of (KX b o e) (by
      cases q : H b with
      | none => rfl
      | some u =>
        have e' : b = a := hA b (by rw [q]; simp)
        subst e'
        rw [hK (by rw [q]; simp)] at e; cases e)
    have hM : Mod K mg (hidT s₁.heap H) := ⟨hKb, nsK hns, ⟨mb, nsK hb, hbb⟩, let ⟨mc, h1, h2⟩ := hlim; ⟨mc, nsK h1, h2⟩⟩
    have e0 : Env0 P w K mg (hidT s₁.heap H) callerA [] s₁ H := ⟨rfl, hM, fun b o e => of_hidT e, Nat.le_of_eq (hidT_size _ _), trivial, fun b hb => absurd (show b ∈ ([] : List Addr) from hb) (by simp), hok, .of_eq hg⟩
    refine codeAny_mono ((F _ hKb (nsK hns)).run callerA [] s₁ H ⟨[.ref a], []⟩ [.ref a] [.ref a] _ _ hr e0 (hbind s₁ (.ref a)) (.cons rfl .nil) (hsp H hO hS)) fun r s' h => ?_
    cases r with
    | error e => exact (hCX H e s' h).elim
    | ok fl =>
      cases fl with
      | next => exact False.elim h
      | brk => exact False.elim h
      | cont => exact False.elim h
      | ret u =>
        obtain ⟨v, H', os, bare, un, hok', r', q⟩ := h
        have q' : v = .bl true := q
        subst q'
        obtain rfl : u = Value.bool true := r'
        refine ⟨rfl, OldK.of_keep fun b o e => ?_, os, bare⟩
        cases q : H b with
        | none => exact un.keep b o e q (by intro z; exact absurd (show b ∈ ([] : List Addr) from z) (by simp)) (by simp)
        | some u =>
          rcases hO b with z | ⟨ob, xs, z⟩
          · rw [q] at z; cases z
          · have z2 := un.frzs b ob _ z
            obtain ⟨e1, _⟩ := hok b _ z
            obtain ⟨e2, _⟩ := hok' b _ z2
            rw [e] at e1; cases e1
            exact e2
  cases hk : K.lookup a with
  | some o =>
    -- the script is one of the module's own objects
    have e := KX a o hk
    rw [ha] at e
    cases e
    refine core (fun _ => none) (fun _ => .inl rfl) (.inr ⟨_, vs.toArray, _, hk, rfl, rfl, rfl, by rw [List.size_toArray, lenV]; exact hl, by simpa using rv⟩) (fun b u z => by have z' : (none : Option HO) = some u := z; cases z') (fun b z => absurd rfl z) fun z => absurd rfl z
  | none =>
    refine core (fun b => if b = a then some (.frz { cls := .type "list", data := .seq vs.toArray } (.lst (ns.map V.int))) else none) (fun b => ?_) (.inl (.inr ⟨{ cls := .type "list", data := .seq vs.toArray }, if_pos rfl⟩)) (fun b u z => ?_) (fun b z => ?_) fun _ => hk
    · by_cases hb : b = a
      · exact .inr ⟨_, _, if_pos hb⟩
      · exact .inl (if_neg hb)
    · by_cases hb : b = a
      · have z' := (if_pos hb).symm.trans z
        cases z'
        subst hb
        exact ⟨ha, by rw [List.length_map]; exact hl, vs, _, rv, ha⟩
      · have z' := (if_neg hb).symm.trans z
        cases z'
    · by_cases hb : b = a
      · exact hb
      · exact absurd (if_neg hb) z
end L2

namespace L2
open PySem PySem.Spec PyProof.Rows

abbrev KOf {K : PySem.W.Frag} {h : Heap} (_ : K.In h) : PySem.W.Frag := K

/-- the goal that k_head leaves (case hc), from the law's promise. F gives the function object fd (K's own) once, then the promise over every base -/
theorem walk_of {l : PySem.W.OpenLaw} {n k : Nat} {q : Program} {loose : List Str} {XP : (Str → Option Value) → Heap → Prop} {YP : World → Heap → Prop} {d : DefRec} {K : Params → PySem.W.Frag} {CX : World → CXT} {sp : World → Sp} {x : Str}
    (hn : l.most = some n) (hn2 : n ≤ sizeLine) (hdf : d.params.defaults = []) (hr : Room k callerA)
    (hY : ∀ (w : World) (h : Heap), YP w h → (K w.params).In h)
    (F : ∀ (w : World) (mg : Str → Option Value) (fa : Addr) (h : Heap), (K w.params).In h → h.Ns mainGlobals mg → mg d.name = some (.ref fa) →
      ∃ fd : FuncData, (∀ (s : Shared) (u : Value), BindsTo s fd ⟨[u], []⟩ [(x, u)]) ∧
        ∀ base : Heap, (K w.params).In base → base.Ns mainGlobals mg → FnOk l.prog w (K w.params) mg base (CX w) k fa fd [x] (sp w))
    (hsp : ∀ (w : World) (H : Hp) (a : Addr) (ns : List Int), ns.length ≤ n → Only H → SqL (K w.params) H a (ns.map V.int) → sp w [.ref a] H (fun v _ => v = .bl true) fun _ _ _ => False)
    (hCX : ∀ (w : World) (H : Hp) (s : Shared) (e : Value) (s' : Shared), CX w [] H s (fun _ _ _ => False) e s' → False) :
    PySem.W.WalkO q loose XP YP l.row.toRowW d [] (fun f vs => PySem.call f vs) := by
  refine Att.attach_call hn hdf fun w s₀ s₁ mg mb fa o pm cd doc a vs ns G Y ho hd hcd hmg hobj hints hlen hg => ?_
  have KX := hY w _ Y
  obtain ⟨fd, hb, hF⟩ := F w mg fa _ KX G.T.g hmg
  exact law_call KX G.T.g G.T.b G.T.builtins G.T.nolimit hg hobj hints (Nat.le_trans hlen hn2) hr hF hb (fun H hO hS => hsp w H a ns hlen hO hS) fun H e s' => hCX w H s₁ e s'
/-- the same where the promise hangs on the written part alone: (sp := My.sp_law), no hole under a binder -/
theorem walk_ofK {l : PySem.W.OpenLaw} {n k : Nat} {q : Program} {loose : List Str} {XP : (Str → Option Value) → Heap → Prop} {YP : World → Heap → Prop} {d : DefRec} {K : Params → PySem.W.Frag} {CX : CXT} {sp : PySem.W.Frag → Sp} {x : Str}
    (hn : l.most = some n) (hn2 : n ≤ sizeLine) (hdf : d.params.defaults = []) (hr : Room k callerA)
    (hY : ∀ (w : World) (h : Heap), YP w h → (K w.params).In h)
    (F : ∀ (w : World) (mg : Str → Option Value) (fa : Addr) (h : Heap), (K w.params).In h → h.Ns mainGlobals mg → mg d.name = some (.ref fa) →
      ∃ fd : FuncData, (∀ (s : Shared) (u : Value), BindsTo s fd ⟨[u], []⟩ [(x, u)]) ∧
        ∀ base : Heap, (K w.params).In base → base.Ns mainGlobals mg → FnOk l.prog w (K w.params) mg base CX k fa fd [x] (sp (K w.params)))
    (hsp : ∀ (K : PySem.W.Frag) (H : Hp) (a : Addr) (ns : List Int), ns.length ≤ n → Only H → SqL K H a (ns.map V.int) → sp K [.ref a] H (fun v _ => v = .bl true) fun _ _ _ => False)
    (hCX : ∀ (H : Hp) (s : Shared) (e : Value) (s' : Shared), CX [] H s (fun _ _ _ => False) e s' → False) :
    PySem.W.WalkO q loose XP YP l.row.toRowW d [] (fun f vs => PySem.call f vs) :=
  walk_of (K := K) (CX := fun _ => CX) (sp := fun w => sp (K w.params)) hn hn2 hdf hr hY F (fun w H a ns h1 h2 h3 => hsp (K w.params) H a ns h1 h2 h3) fun _ H s e s' => hCX H s e s'
end L2


/-! SHORT WORDS over the layer: a def of the text, its body, what a loop and a test want. -/
namespace L2
open PySem PySem.Spec PyProof.Rows

/-! ### the text by places -/
/-- the j-th statement of a class's body -/
def inClass (s : Stmt) (j : Nat) : Stmt := match s with
  | .ClassDef _ _ _ body _ _ _ _ _ _ _ => body.getD j (.Pass ⟨0, 0, 0, 0⟩)
  | _ => .Pass ⟨0, 0, 0, 0⟩
def defArgs (s : Stmt) : Arguments := match s with
  | .FunctionDef _ a _ _ _ _ _ _ _ _ => a
  | _ => { posonlyargs := [], args := [], vararg := none, kwonlyargs := [], kw_defaults := [], kwarg := none, defaults := [] }
def defBody (s : Stmt) : List Stmt := match s with
  | .FunctionDef _ _ b _ _ _ _ _ _ _ => b
  | _ => []
def defScope (s : Stmt) : Scope := match s with
  | .FunctionDef _ _ _ _ _ _ sc _ _ _ => sc
  | _ => { kind := .function, names := [], isGenerator := false, isCoroutine := false }

/-! ### no exception leaves a def -/
abbrev CX0 : CXT := fun _ _ _ _ _ _ => False
abbrev E0 : XK := fun _ _ _ => False
theorem pass0 {X : Cx} : Passes CX0 X E0 := fun _ _ _ _ _ _ _ h => h.elim

/-! ### a def (or method) of the text as it stands behind the top -/
structure Fun (K : PySem.W.Frag) (x qual : Str) (st : Stmt) (f : Addr) (fd : FuncData) : Prop where
  ex : ∃ (oc : Value) (od : Option Addr) (kV doc pm : Value) (an : Option Addr) (cdv ct : Value) (osl : Array (Option Value)),
    fd = PySem.W.fnOf x qual (defArgs st) (defBody st) (defScope st) .none kV doc pm an cdv ct ∧ K.lookup f = some ⟨oc, od, .func fd, osl⟩ ∧ PySem.W.codeIn K cdv qual = true
  kp : PySem.W.keepIn K (.ref f) = true
section
variable {P : Program} {w : World} {K : PySem.W.Frag} {mg : Str → Option Value} {base : Heap}
/-- THE RULE for a def: its body as a term of rules, and the reading of that term -/
theorem Fun.ok {x qual : Str} {st : Stmt} {f : Addr} {fd : FuncData} {N ps : List Str} {k : Nat} {sp : Sp} (F : Fun K x qual st f fd) (S : FnScope N ps (defScope st)) (len : ∀ vs H Q E, sp vs H Q E → vs.length = ps.length)
    (hbody : ∀ (cdv : Value) (A : Around) (outer : List Env) (s : Shared) (H : Hp) (vs : List V) (Q : VK) (E : XK), Room k (A.deeper (envOfC qual (defScope st) s.heap.objs.size f cdv)) → sp vs H Q E →
      ∃ t, PSs (cxOf CX0 P w K mg base N qual (defScope st) f cdv A outer s H E).nox (defBody st) t ∧ t { nx := fun _ H' => Q .non H', rt := Q } (start N vs) H) : FnOk P w K mg base CX0 (k + 1) f fd ps sp := by
  obtain ⟨oc, od, kV, doc, pm, an, cdv, ct, osl, rfl, lk, hcd⟩ := F.ex
  refine fn_of lk hcd S len fun A outer s H vs Q E hr hsp => ?_
  obtain ⟨t, h, q⟩ := hbody cdv A outer s H vs Q E hr hsp
  exact ⟨t, h.nox, q⟩
/-- how its arguments bind (no defaults): h is «fun _ _ _ _ _ _ us hl => match us, hl with | [_, _], _ => rfl», one _ a parameter -/
theorem Fun.binds {x qual : Str} {st : Stmt} {f : Addr} {fd : FuncData} {ps : List Str} (F : Fun K x qual st f fd)
    (h : ∀ (kV doc pm : Value) (an : Option Addr) (cdv ct : Value) (us : List Value), us.length = ps.length → bindArgs (PySem.W.fnOf x qual (defArgs st) (defBody st) (defScope st) .none kV doc pm an cdv ct) ⟨us, []⟩ = pure (ps.zip us)) : Binds K fd ps [] := by
  obtain ⟨oc, od, kV, doc, pm, an, cdv, ct, osl, rfl, lk, hcd⟩ := F.ex
  exact .all (h kV doc pm an cdv ct)
theorem fun_mk {x qual : Str} {st : Stmt} {f : Addr} {oc : Value} {od an : Option Addr} {osl : Array (Option Value)} {kV doc pm cdv ct : Value} (l : K.lookup f = some ⟨oc, od, .func (PySem.W.fnOf x qual (defArgs st) (defBody st) (defScope st) .none kV doc pm an cdv ct), osl⟩)
    (c : PySem.W.codeIn K cdv qual = true) (k : PySem.W.keepIn K (.ref f) = true) : Fun K x qual st f (PySem.W.fnOf x qual (defArgs st) (defBody st) (defScope st) .none kV doc pm an cdv ct) := ⟨⟨oc, od, kV, doc, pm, an, cdv, ct, osl, rfl, l, c⟩, k⟩
end
theorem hu_of {A : Around} {k : Nat} (hr : Room k A) : A.units + 1 < cLine := Nat.lt_of_le_of_lt (Nat.add_le_add_left (by decide : 1 ≤ 64) _) hr.units
theorem small1000 {n : Nat} (h : n ≤ 1000) : n < sizeLine := Nat.lt_of_le_of_lt h (by decide)

/-! ### expressions in short: the name that stands in the i-th slot -/
section
variable {X : Cx}
theorem pv (i : Nat) {x : Str} {pos : Pos} (hN : X.N[i]? = some x := by rfl) (hv : Vis X.env.scope x := by first | exact Or.inl rfl | exact Or.inr (Or.inl rfl) | exact Or.inr (Or.inr rfl)) (hd : (x == ("__debug__" : Str)) = false := by decide)
    (hcd : (x == ("__classdict__" : Str)) = false := by decide) : PE X (.Name x pos) (tVar i) := pe_var hN hv hd hcd
end

/-! ### tests -/
theorem iteF {A B : Prop} (h : B) : if false = true then A else B := by
  rw [if_neg Bool.false_ne_true]
  exact h
theorem iteT {A B : Prop} (h : A) : if true = true then A else B := by
  rw [if_pos rfl]
  exact h
theorem ite2 {c A B : Prop} [Decidable c] (h1 : c → A) (h2 : ¬ c → B) : if c then A else B := by
  by_cases h : c
  · rw [if_pos h]
    exact h1 h
  · rw [if_neg h]
    exact h2 h
theorem iteNS {c A B : Prop} [Decidable c] (hc : c) (h : B) : if (!decide c) = true then A else B := by
  rw [decide_eq_true hc]
  exact iteF h

/-! ### heaps -/
/-- all that was tracked is as it was -/
def Same (H H' : Hp) : Prop := ∀ b o, H b = some o → H' b = some o
theorem Same.refl (H : Hp) : Same H H := fun _ _ h => h
theorem Same.trans {H H1 H2 : Hp} (a : Same H H1) (b : Same H1 H2) : Same H H2 := fun c o h => b c o (a c o h)
theorem Same.free {H H' : Hp} (e : Same H H') {l : Addr} (h : H' l = Option.none) : H l = Option.none := by
  cases q : H l with
  | none => rfl
  | some o =>
    rw [e l o q] at h
    cases h
theorem Same.seq {K : PySem.W.Frag} {H H' : Hp} {a : Addr} {xs : List V} (e : Same H H') (h : SqL K H a xs) : SqL K H' a xs := by
  rcases h with (h | ⟨o, h⟩) | h
  · exact .inl (.inl (e _ _ h))
  · exact .inl (.inr ⟨o, e _ _ h⟩)
  · exact .inr h

end L2

set_option maxHeartbeats 4000000

/-! The pure layer: values without addresses for all that never changes; a memory of lists for what does. -/
namespace L3
open PySem PySem.Spec PyProof.Rows L2
abbrev St := L2.St

/-- a value as data: tuples by their parts; frl: a list that nothing changes (the script); thg: another thing of a built-in type that nothing changes -/
inductive D where
  | non | bl (b : Bool) | int (i : Int) | str (x : Str) | ty (n : String) | ref (a : Addr) | tup (xs : List D) | frl (xs : List D) | thg (n : String)

/-- a list of the text's own that is read only -/
def Kl (K : PySem.W.Frag) (a : Addr) (xs : List V) : Prop :=
  ∃ (o : Obj) (its : Array Value) (n : Nat), K.lookup a = some o ∧ o.cls = .type "list" ∧ o.dict = none ∧ o.data = .seq its n ∧ its.size ≤ sizeLine ∧ Vals xs its.toList
def Fz (K : PySem.W.Frag) (H : Hp) (a : Addr) (xs : List V) : Prop := (∃ o, H a = some (.frz o (.lst xs))) ∨ Kl K a xs
theorem Fz.sq {K : PySem.W.Frag} {H : Hp} {a : Addr} {xs : List V} (h : Fz K H a xs) : SqL K H a xs := by
  rcases h with ⟨o, h⟩ | h
  · exact .inl (.inr ⟨o, h⟩)
  · exact .inr h

mutual
def Dat (K : PySem.W.Frag) (H : Hp) : D → V → Prop
  | .non, v => v = .non
  | .bl b, v => v = .bl b
  | .int i, v => v = .int i
  | .str x, v => v = .str x
  | .ty n, v => v = .ty n
  | .ref a, v => v = .ref a
  | .tup ds, v => ∃ a xs, v = .ref a ∧ H a = some (.tup xs) ∧ Dats K H ds xs
  | .frl ds, v => ∃ a xs, v = .ref a ∧ Fz K H a xs ∧ Dats K H ds xs
  | .thg n, v => ∃ a o u, v = .ref a ∧ H a = some (.frz o u) ∧ o.cls = .type n
def Dats (K : PySem.W.Frag) (H : Hp) : List D → List V → Prop
  | [], xs => xs = []
  | d :: ds, xs => ∃ v vs, xs = v :: vs ∧ Dat K H d v ∧ Dats K H ds vs
end

/-- what never changes stays -/
structure Ext (H H' : Hp) : Prop where
  tup : ∀ b xs, H b = some (.tup xs) → H' b = some (.tup xs)
  frz : ∀ b o u, H b = some (.frz o u) → H' b = some (.frz o u)
theorem Ext.refl (H : Hp) : Ext H H := ⟨fun _ _ h => h, fun _ _ _ h => h⟩
theorem Ext.trans {H H1 H2 : Hp} (a : Ext H H1) (b : Ext H1 H2) : Ext H H2 := ⟨fun c xs h => b.tup c xs (a.tup c xs h), fun c o u h => b.frz c o u (a.frz c o u h)⟩
theorem Fz.mono {K : PySem.W.Frag} {H H' : Hp} {a : Addr} {xs : List V} (e : Ext H H') (h : Fz K H a xs) : Fz K H' a xs := by
  rcases h with ⟨o, h⟩ | h
  · exact .inl ⟨o, e.frz _ _ _ h⟩
  · exact .inr h
mutual
theorem Dat.mono {K : PySem.W.Frag} {H H' : Hp} (e : Ext H H') : ∀ (d : D) (v : V), Dat K H d v → Dat K H' d v
  | .non, v, h => by simpa [Dat] using h
  | .bl b, v, h => by simpa [Dat] using h
  | .int i, v, h => by simpa [Dat] using h
  | .str x, v, h => by simpa [Dat] using h
  | .ty n, v, h => by simpa [Dat] using h
  | .ref a, v, h => by simpa [Dat] using h
  | .tup ds, v, h => by
    obtain ⟨a, xs, e1, e2, e3⟩ := (show ∃ a xs, v = .ref a ∧ H a = some (.tup xs) ∧ Dats K H ds xs from by simpa only [Dat] using h)
    have := Dats.mono e ds xs e3
    simp only [Dat]
    exact ⟨a, xs, e1, e.tup _ _ e2, this⟩
  | .frl ds, v, h => by
    obtain ⟨a, xs, e1, e2, e3⟩ := (show ∃ a xs, v = .ref a ∧ Fz K H a xs ∧ Dats K H ds xs from by simpa only [Dat] using h)
    have := Dats.mono e ds xs e3
    simp only [Dat]
    exact ⟨a, xs, e1, e2.mono e, this⟩
  | .thg n, v, h => by
    obtain ⟨a, o, u, e1, e2, e3⟩ := (show ∃ a o u, v = .ref a ∧ H a = some (.frz o u) ∧ o.cls = .type n from by simpa only [Dat] using h)
    simp only [Dat]
    exact ⟨a, o, u, e1, e.frz _ _ _ e2, e3⟩
theorem Dats.mono {K : PySem.W.Frag} {H H' : Hp} (e : Ext H H') : ∀ (ds : List D) (xs : List V), Dats K H ds xs → Dats K H' ds xs
  | [], xs, h => by simpa [Dats] using h
  | d :: ds, xs, h => by
    obtain ⟨v, vs, e1, e2, e3⟩ := (show ∃ v vs, xs = v :: vs ∧ Dat K H d v ∧ Dats K H ds vs from by simpa only [Dats] using h)
    have h1 := Dat.mono e d v e2
    have h2 := Dats.mono e ds vs e3
    simp only [Dats]
    exact ⟨v, vs, e1, h1, h2⟩
end
section
variable {K : PySem.W.Frag} {H : Hp}
theorem dat_non {v : V} : Dat K H .non v ↔ v = .non := by simp only [Dat]
theorem dat_bl {b : Bool} {v : V} : Dat K H (.bl b) v ↔ v = .bl b := by simp only [Dat]
theorem dat_int {i : Int} {v : V} : Dat K H (.int i) v ↔ v = .int i := by simp only [Dat]
theorem dat_str {x : Str} {v : V} : Dat K H (.str x) v ↔ v = .str x := by simp only [Dat]
theorem dat_ty {n : String} {v : V} : Dat K H (.ty n) v ↔ v = .ty n := by simp only [Dat]
theorem dat_ref {a : Addr} {v : V} : Dat K H (.ref a) v ↔ v = .ref a := by simp only [Dat]
theorem dat_tup {ds : List D} {v : V} : Dat K H (.tup ds) v ↔ ∃ a xs, v = .ref a ∧ H a = some (.tup xs) ∧ Dats K H ds xs := by simp only [Dat]
theorem dat_frl {ds : List D} {v : V} : Dat K H (.frl ds) v ↔ ∃ a xs, v = .ref a ∧ Fz K H a xs ∧ Dats K H ds xs := by simp only [Dat]
theorem dat_thg {n : String} {v : V} : Dat K H (.thg n) v ↔ ∃ a o u, v = .ref a ∧ H a = some (.frz o u) ∧ o.cls = .type n := by simp only [Dat]
theorem dats_nil {xs : List V} : Dats K H [] xs ↔ xs = [] := by simp only [Dats]
theorem dats_cons {d : D} {ds : List D} {xs : List V} : Dats K H (d :: ds) xs ↔ ∃ v vs, xs = v :: vs ∧ Dat K H d v ∧ Dats K H ds vs := by simp only [Dats]
theorem Dats.length : ∀ {ds : List D} {xs : List V}, Dats K H ds xs → ds.length = xs.length
  | [], xs, h => by rw [dats_nil.mp h]; rfl
  | d :: ds, xs, h => by
    obtain ⟨v, vs, rfl, _, h⟩ := dats_cons.mp h
    simp [Dats.length h]
theorem Dats.get : ∀ {ds : List D} {xs : List V} {i : Nat} {d : D}, Dats K H ds xs → ds[i]? = some d → ∃ v, xs[i]? = some v ∧ Dat K H d v
  | [], xs, _, _, _, e => by simp at e
  | d :: ds, xs, i, d', h, e => by
    obtain ⟨v, vs, rfl, h1, h2⟩ := dats_cons.mp h
    cases i with
    | zero => simp at e; subst e; exact ⟨v, rfl, h1⟩
    | succ i => exact Dats.get (i := i) h2 (by simpa using e)
theorem Dats.back : ∀ {ds : List D} {xs : List V} {i : Nat} {v : V}, Dats K H ds xs → xs[i]? = some v → ∃ d, ds[i]? = some d ∧ Dat K H d v
  | [], xs, i, v, h, e => by rw [dats_nil.mp h] at e; simp at e
  | d :: ds, xs, i, v', h, e => by
    obtain ⟨v, vs, rfl, h1, h2⟩ := dats_cons.mp h
    cases i with
    | zero => simp at e; subst e; exact ⟨d, rfl, h1⟩
    | succ i => exact Dats.back (i := i) h2 (by simpa using e)
theorem Dats.append : ∀ {ds es : List D} {xs ys : List V}, Dats K H ds xs → Dats K H es ys → Dats K H (ds ++ es) (xs ++ ys)
  | [], es, xs, ys, h, h' => by rw [dats_nil.mp h]; exact h'
  | d :: ds, es, xs, ys, h, h' => by
    obtain ⟨v, vs, rfl, h1, h2⟩ := dats_cons.mp h
    exact dats_cons.mpr ⟨v, vs ++ ys, rfl, h1, h2.append h'⟩
theorem Dats.one {d : D} {v : V} (h : Dat K H d v) : Dats K H [d] [v] := dats_cons.mpr ⟨v, [], rfl, h, dats_nil.mpr rfl⟩
end

/-- the lists that may change -/
inductive MO where
  | lst (ds : List D)
abbrev Mp := Addr → Option MO
def updM (M : Mp) (a : Addr) (o : MO) : Mp := fun b => if b = a then some o else M b
def noM : Mp := fun _ => none
theorem updM_same {M : Mp} {a : Addr} {o : MO} : updM M a o a = some o := by unfold updM; rw [if_pos rfl]
theorem updM_ne {M : Mp} {a b : Addr} {o : MO} (h : b ≠ a) : updM M a o b = M b := by unfold updM; rw [if_neg h]
theorem updM_upd {M : Mp} {a : Addr} {o u : MO} : updM (updM M a o) a u = updM M a u := by
  funext b; unfold updM; split <;> rfl
theorem updM_old {M : Mp} {a b : Addr} {o u : MO} (h : M b = some o) (n : M a = none) : updM M a u b = some o := by
  rw [updM_ne (fun e => by subst e; rw [h] at n; cases n)]; exact h
/-- M has no more than M' -/
def Le (M M' : Mp) : Prop := ∀ a o, M a = some o → M' a = some o
theorem Le.refl (M : Mp) : Le M M := fun _ _ h => h
theorem Le.trans {M M1 M2 : Mp} (a : Le M M1) (b : Le M1 M2) : Le M M2 := fun c o h => b c o (a c o h)
theorem Le.no (M : Mp) : Le noM M := fun _ _ h => by cases h
theorem Le.new {M : Mp} {a : Addr} {o : MO} (n : M a = none) : Le M (updM M a o) := fun _ _ h => updM_old h n

def MOk (K : PySem.W.Frag) (H : Hp) (a : Addr) : MO → Prop
  | .lst ds => ∃ xs, H a = some (.lst xs) ∧ Dats K H ds xs
def RepM (K : PySem.W.Frag) (H : Hp) (M : Mp) : Prop := ∀ a o, M a = some o → MOk K H a o
theorem RepM.no {K : PySem.W.Frag} {H : Hp} : RepM K H noM := fun _ _ h => by cases h
theorem RepM.le {K : PySem.W.Frag} {H : Hp} {M M' : Mp} (h : RepM K H M') (l : Le M M') : RepM K H M := fun a o e => h a o (l a o e)
theorem RepM.lst {K : PySem.W.Frag} {H : Hp} {M : Mp} {a : Addr} {ds : List D} (h : RepM K H M) (e : M a = some (.lst ds)) : ∃ xs, H a = some (.lst xs) ∧ Dats K H ds xs := h a _ e
theorem RepM.free {K : PySem.W.Frag} {H : Hp} {M : Mp} {a : Addr} (h : RepM K H M) (e : H a = none) : M a = none := by
  cases q : M a with
  | none => rfl
  | some o =>
    cases o with
    | lst ds =>
      obtain ⟨xs, e', _⟩ := h.lst q
      rw [e] at e'; cases e'
theorem RepM.notLst {K : PySem.W.Frag} {H : Hp} {M : Mp} {a : Addr} {u : HO} (h : RepM K H M) (e : H a = some u) (n : ∀ xs, u ≠ .lst xs) : M a = none := by
  cases q : M a with
  | none => rfl
  | some o =>
    cases o with
    | lst ds =>
      obtain ⟨xs, e', _⟩ := h.lst q
      rw [e] at e'
      exact absurd (Option.some.inj e') (n xs)

/-- what M does not name is left as it is, and stays unnamed -/
def Fr (M : Mp) (H : Hp) (M' : Mp) (H' : Hp) : Prop := ∀ b o, M b = none → H b = some o → H' b = some o ∧ M' b = none
theorem Fr.refl (M : Mp) (H : Hp) : Fr M H M H := fun _ _ n e => ⟨e, n⟩
theorem Fr.trans {M M1 M2 : Mp} {H H1 H2 : Hp} (a : Fr M H M1 H1) (b : Fr M1 H1 M2 H2) : Fr M H M2 H2 := fun c o n e =>
  let ⟨e1, n1⟩ := a c o n e
  b c o n1 e1
theorem Fr.le {M M1 M2 : Mp} {H H1 : Hp} (a : Fr M H M1 H1) (l : Le M2 M1) : Fr M H M2 H1 := fun b o n e => by
  obtain ⟨e1, n1⟩ := a b o n e
  refine ⟨e1, ?_⟩
  cases q : M2 b with
  | none => rfl
  | some u => rw [l b u q] at n1; cases n1
theorem Fr.ext {K : PySem.W.Frag} {M M' : Mp} {H H' : Hp} (f : Fr M H M' H') (r : RepM K H M) : Ext H H' :=
  ⟨fun b xs e => (f b _ (r.notLst e (fun _ z => by cases z)) e).1, fun b o u e => (f b _ (r.notLst e (fun _ z => by cases z)) e).1⟩
theorem Ext.new {H : Hp} {p : Addr} {o : HO} (n : H p = none) : Ext H (upd H p o) :=
  ⟨fun b xs e => by rw [upd_ne (ne_of_none e n)]; exact e, fun b o' u e => by rw [upd_ne (ne_of_none e n)]; exact e⟩
theorem Fr.new {M M' : Mp} {H : Hp} {p : Addr} {o : HO} (n : H p = none) (h : ∀ b, b ≠ p → M' b = M b) : Fr M H M' (upd H p o) := fun b u m e => by
  have hb : b ≠ p := ne_of_none e n
  rw [upd_ne hb, h b hb]
  exact ⟨e, m⟩
theorem Fr.write {K : PySem.W.Frag} {M : Mp} {H : Hp} {p : Addr} {o : HO} {u : MO} {v : MO} (m : M p = some u) : Fr M H (updM M p v) (upd H p o) := fun b w n e => by
  have hb : b ≠ p := fun z => by subst z; rw [m] at n; cases n
  rw [upd_ne hb, updM_ne hb]
  exact ⟨e, n⟩
theorem RepM.new {K : PySem.W.Frag} {M : Mp} {H : Hp} {p : Addr} {o : HO} (r : RepM K H M) (n : H p = none) : RepM K (upd H p o) M := fun a u e => by
  cases u with
  | lst ds =>
    obtain ⟨xs, e1, e2⟩ := r.lst e
    exact ⟨xs, by rw [upd_ne (ne_of_none e1 n)]; exact e1, Dats.mono (Ext.new n) _ _ e2⟩
theorem Ext.writeL {H : Hp} {p : Addr} {xs ys : List V} (h : H p = some (.lst xs)) : Ext H (upd H p (.lst ys)) :=
  ⟨fun b zs e => by rw [upd_ne (ne_of e h (by intro z; cases z))]; exact e, fun b o u e => by rw [upd_ne (ne_of e h (by intro z; cases z))]; exact e⟩
theorem RepM.newL {K : PySem.W.Frag} {M : Mp} {H : Hp} {p : Addr} {xs : List V} {ds : List D} (r : RepM K H M) (n : H p = none) (d : Dats K H ds xs) : RepM K (upd H p (.lst xs)) (updM M p (.lst ds)) := fun a u e => by
  by_cases ha : a = p
  · subst ha
    rw [updM_same] at e; cases e
    exact ⟨xs, upd_same, Dats.mono (Ext.new n) _ _ d⟩
  · rw [updM_ne ha] at e
    exact r.new n a u e
theorem RepM.writeL {K : PySem.W.Frag} {M : Mp} {H : Hp} {p : Addr} {xs ys : List V} {ds : List D} (r : RepM K H M) (h : H p = some (.lst xs)) (d : Dats K H ds ys) : RepM K (upd H p (.lst ys)) (updM M p (.lst ds)) := fun a u e => by
  by_cases ha : a = p
  · subst ha
    rw [updM_same] at e; cases e
    exact ⟨ys, upd_same, Dats.mono (Ext.writeL h) _ _ d⟩
  · rw [updM_ne ha] at e
    cases u with
    | lst es =>
      obtain ⟨zs, e1, e2⟩ := r.lst e
      exact ⟨zs, by rw [upd_ne ha]; exact e1, Dats.mono (Ext.writeL h) _ _ e2⟩

/-! ### the frame's values as data -/
abbrev En := List (Option D)
structure Rep (K : PySem.W.Frag) (H : Hp) (σ : St) (ρ : En) (M : Mp) : Prop where
  env : ∀ (i : Nat) d, ρ[i]? = some (some d) → ∃ v, σ[i]? = some (some v) ∧ Dat K H d v
  len : ρ.length = σ.length
  mem : RepM K H M
theorem Rep.go {K : PySem.W.Frag} {H H' : Hp} {σ : St} {ρ : En} {M M' : Mp} (r : Rep K H σ ρ M) (f : Fr M H M' H') (r' : RepM K H' M') : Rep K H' σ ρ M' :=
  ⟨fun i d e => let ⟨v, e1, e2⟩ := r.env i d e; ⟨v, e1, Dat.mono (f.ext r.mem) _ _ e2⟩, r.len, r'⟩
theorem Rep.set {K : PySem.W.Frag} {H : Hp} {σ : St} {ρ : En} {M : Mp} {i : Nat} {d : D} {v : V} (r : Rep K H σ ρ M) (h : Dat K H d v) : Rep K H (σ.set i (some v)) (ρ.set i (some d)) M := by
  refine ⟨fun j e q => ?_, by simp [r.len], r.mem⟩
  by_cases hj : i = j
  · subst hj
    by_cases hl : i < ρ.length
    · rw [List.getElem?_set_self hl] at q
      cases q
      exact ⟨v, List.getElem?_set_self (by rw [← r.len]; exact hl), h⟩
    · rw [List.getElem?_eq_none (by simp; omega)] at q; cases q
  · rw [List.getElem?_set_ne hj] at q ⊢
    exact r.env j e q

/-! ### judgements -/
abbrev DK := D → Mp → Prop
abbrev TE3 := En → Mp → DK → Prop
abbrev TT3 := En → Mp → (Bool → Mp → Prop) → Prop
abbrev TA3 := En → Mp → (List D → Mp → Prop) → Prop
def Post (K : PySem.W.Frag) (M : Mp) (H : Hp) (Q : DK) : VK := fun v H' => ∃ d M', Fr M H M' H' ∧ Dat K H' d v ∧ RepM K H' M' ∧ Q d M'
def PostB (K : PySem.W.Frag) (M : Mp) (H : Hp) (Q : Bool → Mp → Prop) : Bool → Hp → Prop := fun b H' => ∃ M', Fr M H M' H' ∧ RepM K H' M' ∧ Q b M'
def PostA (K : PySem.W.Frag) (M : Mp) (H : Hp) (Q : List D → Mp → Prop) : List V → Hp → Prop := fun vs H' => ∃ ds M', Fr M H M' H' ∧ Dats K H' ds vs ∧ RepM K H' M' ∧ Q ds M'
structure PE3 (X : Cx) (e : Expr) (t : TE3) : Prop where
  run : ∀ (pins : List (Addr × Obj)) (s : Shared) (σ : St) (H : Hp) (ρ : En) (M : Mp) (Q : DK), Inv X pins σ H s → Rep X.K H σ ρ M → t ρ M Q → wpAny (model X.prog X.w) X.A (eval e X.env) (EP X pins σ (Post X.K M H Q)) X.xe s
structure PT3 (X : Cx) (e : Expr) (t : TT3) : Prop where
  run : ∀ (pins : List (Addr × Obj)) (s : Shared) (σ : St) (H : Hp) (ρ : En) (M : Mp) (Q : Bool → Mp → Prop), Inv X pins σ H s → Rep X.K H σ ρ M → t ρ M Q → wpAny (model X.prog X.w) X.A (isTrue e X.env (eval e X.env)) (TP X pins σ (PostB X.K M H Q)) X.xe s
structure PW3 (X : Cx) (e : Expr) (t : TT3) : Prop where
  run : ∀ (whole : Sem Value) (pins : List (Addr × Obj)) (s : Shared) (σ : St) (H : Hp) (ρ : En) (M : Mp) (Q : Bool → Mp → Prop), Inv X pins σ H s → Rep X.K H σ ρ M → t ρ M Q → wpAny (model X.prog X.w) X.A (isTrue e X.env whole) (TP X pins σ (PostB X.K M H Q)) X.xe s
theorem PW3.pt {X : Cx} {e : Expr} {t : TT3} (h : PW3 X e t) : PT3 X e t := ⟨h.run _⟩
structure PA3 (X : Cx) (es : List Expr) (t : TA3) : Prop where
  run : ∀ (pos : Pos) (pins : List (Addr × Obj)) (s : Shared) (σ : St) (H : Hp) (ρ : En) (M : Mp) (Q : List D → Mp → Prop), Inv X pins σ H s → Rep X.K H σ ρ M → t ρ M Q → wpAny (model X.prog X.w) X.A (spliced (backTo pos (starEach es X.env))) (AP X pins σ (PostA X.K M H Q)) X.xe s
structure En3 where
  nx : En → Mp → Prop
  rt : DK
  bk : En → Mp → Prop := fun _ _ => False
  ct : En → Mp → Prop := fun _ _ => False
abbrev TS3 := En3 → En → Mp → Prop
def PostN (K : PySem.W.Frag) (M : Mp) (H : Hp) (Q : En → Mp → Prop) : St → Hp → Prop := fun σ' H' => ∃ ρ' M', Fr M H M' H' ∧ Rep K H' σ' ρ' M' ∧ Q ρ' M'
def ends (K : PySem.W.Frag) (M : Mp) (H : Hp) (D : En3) : Ends := { nx := PostN K M H D.nx, rt := Post K M H D.rt, bk := PostN K M H D.bk, ct := PostN K M H D.ct }
structure PS3 (X : Cx) (st : Stmt) (t : TS3) : Prop where
  run : ∀ (pins : List (Addr × Obj)) (s : Shared) (σ : St) (H : Hp) (ρ : En) (M : Mp) (D : En3), Inv X pins σ H s → Rep X.K H σ ρ M → t D ρ M → wpAny (model X.prog X.w) X.A (exec st X.env) (SP X pins (ends X.K M H D)) X.xe s
structure PSs3 (X : Cx) (st : List Stmt) (t : TS3) : Prop where
  run : ∀ (pins : List (Addr × Obj)) (s : Shared) (σ : St) (H : Hp) (ρ : En) (M : Mp) (D : En3), Inv X pins σ H s → Rep X.K H σ ρ M → t D ρ M → wpAny (model X.prog X.w) X.A (execs st X.env) (SP X pins (ends X.K M H D)) X.xe s

/-! ### up and down -/
section
variable {X : Cx}
theorem up {e : Expr} {te : TE} {t : TE3} (h : PE X e te) (g : ∀ σ H ρ M Q, Rep X.K H σ ρ M → t ρ M Q → te σ H (Post X.K M H Q)) : PE3 X e t :=
  ⟨fun pins s σ H ρ M Q I r q => h pins s σ H _ I (g σ H ρ M Q r q)⟩
theorem upT {e : Expr} {te : TT} {t : TT3} (h : PT X e te) (g : ∀ σ H ρ M Q, Rep X.K H σ ρ M → t ρ M Q → te σ H (PostB X.K M H Q)) : PT3 X e t :=
  ⟨fun pins s σ H ρ M Q I r q => h pins s σ H _ I (g σ H ρ M Q r q)⟩
theorem upS {st : Stmt} {te : TS} {t : TS3} (h : PS X st te) (g : ∀ σ H ρ M D, Rep X.K H σ ρ M → t D ρ M → te (ends X.K M H D) σ H) : PS3 X st t :=
  ⟨fun pins s σ H ρ M D I r q => h pins s σ H _ I (g σ H ρ M D r q)⟩
def dn (K : PySem.W.Frag) (t : TE3) : TE := fun σ H Q' => ∃ ρ M Q, Rep K H σ ρ M ∧ t ρ M Q ∧ ∀ v H', Post K M H Q v H' → Q' v H'
def dnT (K : PySem.W.Frag) (t : TT3) : TT := fun σ H Q' => ∃ ρ M Q, Rep K H σ ρ M ∧ t ρ M Q ∧ ∀ v H', PostB K M H Q v H' → Q' v H'
def dnA (K : PySem.W.Frag) (t : TA3) : TA := fun σ H Q' => ∃ ρ M Q, Rep K H σ ρ M ∧ t ρ M Q ∧ ∀ v H', PostA K M H Q v H' → Q' v H'
def dnS (K : PySem.W.Frag) (t : TS3) : TS := fun D' σ H => ∃ ρ M D, Rep K H σ ρ M ∧ t D ρ M ∧ (∀ σ' H', PostN K M H D.nx σ' H' → D'.nx σ' H') ∧ (∀ v H', Post K M H D.rt v H' → D'.rt v H') ∧ (∀ σ' H', PostN K M H D.bk σ' H' → D'.bk σ' H') ∧ (∀ σ' H', PostN K M H D.ct σ' H' → D'.ct σ' H')
theorem PE3.dn {e : Expr} {t : TE3} (h : PE3 X e t) : PE X e (dn X.K t) := fun pins s σ H Q' I ⟨ρ, M, Q, r, q, k⟩ =>
  thn (h.run pins s σ H ρ M Q I r q) fun _ _ ⟨v, H', I', rv, p⟩ => ⟨v, H', I', rv, k v H' p⟩
theorem PT3.dn {e : Expr} {t : TT3} (h : PT3 X e t) : PT X e (dnT X.K t) := fun pins s σ H Q' I ⟨ρ, M, Q, r, q, k⟩ =>
  thn (h.run pins s σ H ρ M Q I r q) fun _ _ ⟨H', I', p⟩ => ⟨H', I', k _ H' p⟩
theorem PW3.dn {e : Expr} {t : TT3} (h : PW3 X e t) : PW X e (dnT X.K t) := fun wh pins s σ H Q' I ⟨ρ, M, Q, r, q, k⟩ =>
  thn (h.run wh pins s σ H ρ M Q I r q) fun _ _ ⟨H', I', p⟩ => ⟨H', I', k _ H' p⟩
theorem PA3.dn {es : List Expr} {t : TA3} (h : PA3 X es t) : PA X es (dnA X.K t) := fun pos pins s σ H Q' I ⟨ρ, M, Q, r, q, k⟩ =>
  thn (h.run pos pins s σ H ρ M Q I r q) fun _ _ ⟨vs, H', I', rv, p⟩ => ⟨vs, H', I', rv, k vs H' p⟩
theorem PSs3.dn {sts : List Stmt} {t : TS3} (h : PSs3 X sts t) : PSs X sts (dnS X.K t) := fun pins s σ H D' I ⟨ρ, M, D, r, q, k1, k2, k3, k4⟩ =>
  thn (h.run pins s σ H ρ M D I r q) fun f s' z => by
    cases f with
    | next => obtain ⟨σ', H', I', p⟩ := z; exact ⟨σ', H', I', k1 _ _ p⟩
    | brk => obtain ⟨σ', H', I', p⟩ := z; exact ⟨σ', H', I', k3 _ _ p⟩
    | cont => obtain ⟨σ', H', I', p⟩ := z; exact ⟨σ', H', I', k4 _ _ p⟩
    | ret u => obtain ⟨v, σ', H', I', rv, p⟩ := z; exact ⟨v, σ', H', I', rv, k2 _ _ p⟩
/-- a part read on its own way -/
theorem dn_of {K : PySem.W.Frag} {t : TE3} {σ : St} {H : Hp} {ρ : En} {M : Mp} {Q : DK} {Q' : VK} (r : Rep K H σ ρ M) (q : t ρ M Q) (k : ∀ v H' d M', Fr M H M' H' → Dat K H' d v → Rep K H' σ ρ M' → Q d M' → Q' v H') : dn K t σ H Q' :=
  ⟨ρ, M, Q, r, q, fun v H' ⟨d, M', f, dv, rm, p⟩ => k v H' d M' f dv (r.go f rm) p⟩
theorem dnT_of {K : PySem.W.Frag} {t : TT3} {σ : St} {H : Hp} {ρ : En} {M : Mp} {Q : Bool → Mp → Prop} {Q' : Bool → Hp → Prop} (r : Rep K H σ ρ M) (q : t ρ M Q) (k : ∀ b H' M', Fr M H M' H' → Rep K H' σ ρ M' → Q b M' → Q' b H') : dnT K t σ H Q' :=
  ⟨ρ, M, Q, r, q, fun b H' ⟨M', f, rm, p⟩ => k b H' M' f (r.go f rm) p⟩
theorem dnA_of {K : PySem.W.Frag} {t : TA3} {σ : St} {H : Hp} {ρ : En} {M : Mp} {Q : List D → Mp → Prop} {Q' : List V → Hp → Prop} (r : Rep K H σ ρ M) (q : t ρ M Q) (k : ∀ vs H' ds M', Fr M H M' H' → Dats K H' ds vs → Rep K H' σ ρ M' → Q ds M' → Q' vs H') : dnA K t σ H Q' :=
  ⟨ρ, M, Q, r, q, fun v H' ⟨d, M', f, dv, rm, p⟩ => k v H' d M' f dv (r.go f rm) p⟩
theorem post_self {K : PySem.W.Frag} {M : Mp} {H : Hp} {Q : DK} {d : D} {v : V} (rm : RepM K H M) (h : Dat K H d v) (q : Q d M) : Post K M H Q v H := ⟨d, M, .refl _ _, h, rm, q⟩
/-- the wish, moved to a later state -/
theorem Post.back {K : PySem.W.Frag} {M M1 : Mp} {H H1 : Hp} {Q : DK} {v : V} {H' : Hp} (f : Fr M H M1 H1) (p : Post K M1 H1 Q v H') : Post K M H Q v H' := by
  obtain ⟨d, M', f', dv, rm, q⟩ := p
  exact ⟨d, M', f.trans f', dv, rm, q⟩
theorem PostB.back {K : PySem.W.Frag} {M M1 : Mp} {H H1 : Hp} {Q : Bool → Mp → Prop} {b : Bool} {H' : Hp} (f : Fr M H M1 H1) (p : PostB K M1 H1 Q b H') : PostB K M H Q b H' := by
  obtain ⟨M', f', rm, q⟩ := p
  exact ⟨M', f.trans f', rm, q⟩
theorem PostN.back {K : PySem.W.Frag} {M M1 : Mp} {H H1 : Hp} {Q : En → Mp → Prop} {σ : St} {H' : Hp} (f : Fr M H M1 H1) (p : PostN K M1 H1 Q σ H') : PostN K M H Q σ H' := by
  obtain ⟨ρ', M', f', r, q⟩ := p
  exact ⟨ρ', M', f.trans f', r, q⟩
end
end L3

/-! Expressions over the pure layer. -/
namespace L3
open PySem PySem.Spec PyProof.Rows L2
section
variable {X : Cx} {a b c : Expr} {ta tb tc : TE3} {pos : Pos}

/-! ### names and constants -/
def tVar3 (i : Nat) : TE3 := fun ρ M Q => ∃ d, ρ[i]? = some (some d) ∧ Q d M
def tC3 (d : D) : TE3 := fun _ M Q => Q d M
theorem q_var (i : Nat) {x : Str} {pos : Pos} (hN : X.N[i]? = some x := by rfl) (hv : Vis X.env.scope x := by first | exact Or.inl rfl | exact Or.inr (Or.inl rfl) | exact Or.inr (Or.inr rfl)) (hd : (x == ("__debug__" : Str)) = false := by decide)
    (hcd : (x == ("__classdict__" : Str)) = false := by decide) : PE3 X (.Name x pos) (tVar3 i) :=
  up (pe_var hN hv hd hcd) fun σ H ρ M Q r ⟨d, e, q⟩ => by
    obtain ⟨v, e1, e2⟩ := r.env i d e
    exact ⟨v, e1, post_self r.mem e2 q⟩
theorem q_int {i j pos} : PE3 X (.Constant (.int i) j pos) (tC3 (.int i)) := up pe_int fun _ _ _ _ _ r q => post_self r.mem (dat_int.mpr rfl) q
theorem q_bl {b j pos} : PE3 X (.Constant (.bool b) j pos) (tC3 (.bl b)) := up pe_bl fun _ _ _ _ _ r q => post_self r.mem (dat_bl.mpr rfl) q
theorem q_non {j pos} : PE3 X (.Constant .none j pos) (tC3 .non) := up pe_non fun _ _ _ _ _ r q => post_self r.mem (dat_non.mpr rfl) q
theorem q_str {x j pos} : PE3 X (.Constant (.str x) j pos) (tC3 (.str x)) := up pe_str fun _ _ _ _ _ r q => post_self r.mem (dat_str.mpr rfl) q
/-- a class of the text's as a value -/
theorem q_cls {x : Str} {C : Addr} {pos : Pos} (hg : Gl X x) (hm : X.mg x = some (.ref C)) (hd : (x == ("__debug__" : Str)) = false := by decide) : PE3 X (.Name x pos) (tC3 (.ref C)) :=
  up (pe_glob (v := .ref C) hg hm rfl hd) fun _ _ _ _ _ r q => post_self r.mem (dat_ref.mpr rfl) q
/-- a built-in type as a value -/
theorem q_type {x : Str} {n : String} {pos : Pos} (hg : Gl X x) (hm : X.mg x = none) (hv : bootBuiltins x = some (.type n)) (hn : x ≠ "__name__" := by decide) (hd : (x == ("__debug__" : Str)) = false := by decide) : PE3 X (.Name x pos) (tC3 (.ty n)) :=
  up (pe_bltn (v := .ty n) hg hm hv rfl hn hd) fun _ _ _ _ _ r q => post_self r.mem (dat_ty.mpr rfl) q

/-! ### two-place operations -/
abbrev R3 := D → D → Mp → DK → Prop
structure Op3 (X : Cx) (f : Value → Value → Sem Value) (t : R3) : Prop where
  run : ∀ (pins : List (Addr × Obj)) (s : Shared) (σ : St) (H : Hp) (M : Mp) (x y : V) (d e : D) (v u : Value) (Q : DK), Inv X pins σ H s → RepM X.K H M → RelV x v → RelV y u → Dat X.K H d x → Dat X.K H e y → t d e M Q →
    wpAny (model X.prog X.w) X.A (f v u) (EP X pins σ (Post X.K M H Q)) X.xe s
theorem op3 {f : Value → Value → Sem Value} {r : R2} {t : R3} (h : OpR X f r) (g : ∀ H M x y d e Q, RepM X.K H M → Dat X.K H d x → Dat X.K H e y → t d e M Q → r x y H (Post X.K M H Q)) : Op3 X f t :=
  ⟨fun pins s σ H M x y d e v u Q I rm rx ry dx dy q => h pins s σ H x y v u _ I rx ry (g H M x y d e Q rm dx dy q)⟩
def tBin (t : R3) (ta tb : TE3) : TE3 := fun ρ M Q => ta ρ M fun x M1 => tb ρ M1 fun y M2 => t x y M2 Q
/-- two parts in a row -/
theorem two3 (ha : PE3 X a ta) (hb : PE3 X b tb) {pins : List (Addr × Obj)} {s : Shared} {σ : St} {H : Hp} {ρ : En} {M : Mp} {R : D → D → Mp → Prop} (I : Inv X pins σ H s) (r : Rep X.K H σ ρ M)
    (h : ta ρ M fun x M1 => tb ρ M1 fun y M2 => R x y M2) {Q : Value → Shared → Prop} {f : Value → Value → Sem Value}
    (hf : ∀ v u s2 x y d e H2 M2, Inv X pins σ H2 s2 → Rep X.K H2 σ ρ M2 → Fr M H M2 H2 → RelV x v → RelV y u → Dat X.K H2 d x → Dat X.K H2 e y → R d e M2 → wpAny (model X.prog X.w) X.A (f v u) Q X.xe s2) :
    wpAny (model X.prog X.w) X.A (eval a X.env) (fun v s₁ => wpAny (model X.prog X.w) X.A (eval b X.env) (fun u s₂ => wpAny (model X.prog X.w) X.A (f v u) Q X.xe s₂) X.xe s₁) X.xe s := by
  refine thn (ha.run pins s σ H ρ M _ I r h) fun v s1 ⟨x, H1, I1, r1, d, M1, f1, d1, rm1, q1⟩ => ?_
  have R1 := r.go f1 rm1
  refine thn (hb.run pins s1 σ H1 ρ M1 _ I1 R1 q1) fun u s2 ⟨y, H2, I2, r2, e, M2, f2, d2, rm2, q2⟩ => ?_
  exact hf v u s2 x y d e H2 M2 I2 (R1.go f2 rm2) (f1.trans f2) r1 r2 (Dat.mono (f2.ext rm1) _ _ d1) d2 q2
theorem q_bin {op : Operator} {t : R3} (ho : Op3 X (binaryOp op) t) (ha : PE3 X a ta) (hb : PE3 X b tb) : PE3 X (.BinOp a op b pos) (tBin t ta tb) := by
  constructor
  intro pins s σ H ρ M Q I r h
  refine wpAny_BinOp (two3 ha hb I r h fun v u s2 x y d e H2 M2 I2 R2 f rx ry dx dy q => ?_)
  exact thn (ho.run pins s2 σ H2 M2 x y d e v u Q I2 R2.mem rx ry dx dy q) fun _ _ ⟨z, H3, I3, r3, p⟩ => ⟨z, H3, I3, r3, p.back f⟩
theorem q_cmp {op : CmpOp} {t : R3} (ho : Op3 X (compareOp op) t) (ha : PE3 X a ta) (hb : PE3 X b tb) (hm : behindInMarks op b = false) : PE3 X (.Compare a [op] [b] pos) (tBin t ta tb) := by
  constructor
  intro pins s σ H ρ M Q I r h
  refine wpAny_Compare1 (two3 ha hb I r h fun v u s2 x y d e H2 M2 I2 R2 f rx ry dx dy q => ?_) hm
  exact thn (ho.run pins s2 σ H2 M2 x y d e v u Q I2 R2.mem rx ry dx dy q) fun _ _ ⟨z, H3, I3, r3, p⟩ => ⟨z, H3, I3, r3, p.back f⟩
/-- a value's reading as a test -/
def tTest3 (t : TE3) : TT3 := fun ρ M Q => t ρ M fun x M' => ∃ k, x = .bl k ∧ Q k M'
theorem k_cmp {op : CmpOp} {t : R3} (ho : Op3 X (compareOp op) t) (ha : PE3 X a ta) (hb : PE3 X b tb) (hm : behindInMarks op b = false) : PT3 X (.Compare a [op] [b] pos) (tTest3 (tBin t ta tb)) := by
  constructor
  intro pins s σ H ρ M Q I r h
  refine wpAny_isTrue_Compare1 (thn (ha.run pins s σ H ρ M _ I r h) fun v s1 ⟨x, H1, I1, r1, d, M1, f1, d1, rm1, q1⟩ => thn (hb.run pins s1 σ H1 ρ M1 _ I1 (r.go f1 rm1) q1) fun u s2 ⟨y, H2, I2, r2, e, M2, f2, d2, rm2, q2⟩ =>
    thn (ho.run pins s2 σ H2 M2 x y d e v u _ I2 rm2 r1 r2 (Dat.mono (f2.ext rm1) _ _ d1) d2 q2) fun w s3 ⟨z, H3, I3, r3, dz, M3, f3, d3, rm3, k, ek, q3⟩ => ?_) hm
  subst ek
  obtain rfl := dat_bl.mp d3
  cases r3
  exact wpAny_truthy_bool ⟨H3, I3, M3, (f1.trans f2).trans f3, rm3, q3⟩
/-- an expression whose value is a bool, as a test -/
theorem k_val {e : Expr} {t : TE3} (h : PE3 X e t) (he : ∀ whole, isTrue e X.env whole = (do let v ← whole; standAt e.pos; holding [v] (truthy v)) := by intro _; rfl) : PT3 X e (tTest3 t) := by
  constructor
  intro pins s σ H ρ M Q I r hw
  refine isTrue_plain (thn (h.run pins s σ H ρ M _ I r hw) fun v s1 ⟨x, H1, I1, r1, d, M1, f1, d1, rm1, k, ek, q1⟩ => ?_) (he _)
  subst ek
  obtain rfl := dat_bl.mp d1
  cases r1
  exact wpAny_truthy_bool ⟨H1, I1, M1, f1, rm1, q1⟩
/-- a op1 b op2 c -/
def tChain3 (t t' : R3) (ta tb tc : TE3) : TE3 := fun ρ M Q => ta ρ M fun x M1 => tb ρ M1 fun y M2 => t x y M2 fun z M3 => ∃ k, z = .bl k ∧
  (if k = true then tc ρ M3 fun w M4 => t' y w M4 Q else Q (.bl false) M3)
theorem q_chain {op op' : CmpOp} {t t' : R3} (ho : Op3 X (compareOp op) t) (ho' : Op3 X (compareOp op') t') (ha : PE3 X a ta) (hb : PE3 X b tb) (hc : PE3 X c tc)
    (hm : lastMarks [op, op'] [b, c] = false := by with_unfolding_all rfl) : PE3 X (.Compare a [op, op'] [b, c] pos) (tChain3 t t' ta tb tc) := by
  constructor
  intro pins s σ H ρ M Q I r h
  refine Compare_chain (thn (ha.run pins s σ H ρ M _ I r h) fun v s1 ⟨x, H1, I1, r1, d, M1, f1, d1, rm1, q1⟩ => chain_link (thn (hb.run pins s1 σ H1 ρ M1 _ I1 (r.go f1 rm1) q1) fun u s2 ⟨y, H2, I2, r2, e, M2, f2, d2, rm2, q2⟩ =>
    thn (ho.run pins s2 σ H2 M2 x y d e v u _ I2 rm2 r1 r2 (Dat.mono (f2.ext rm1) _ _ d1) d2 q2) fun w s3 ⟨z, H3, I3, r3, dz, M3, f3, d3, rm3, k, ek, q3⟩ => ?_)) hm
  subst ek
  obtain rfl := dat_bl.mp d3
  cases r3
  have f13 := (f1.trans f2).trans f3
  refine wpAny_truthy_bool ?_
  cases k with
  | false => exact ite_ff ⟨.bl false, H3, I3, rfl, .bl false, M3, f13, dat_bl.mpr rfl, rm3, q3⟩
  | true =>
    refine ite_tt (chain_last (thn (hc.run pins s3 σ H3 ρ M3 _ I3 ((r.go (f1.trans f2) rm2).go f3 rm3) q3) fun w' s4 ⟨z', H4, I4, r4, d', M4, f4, d4, rm4, q4⟩ => ?_))
    exact thn (ho'.run pins s4 σ H4 M4 y z' e d' u w' Q I4 rm4 r2 r4 (Dat.mono ((f3.trans f4).ext rm2) _ _ d2) d4 q4) fun _ _ ⟨z, H5, I5, r5, p⟩ => ⟨z, H5, I5, r5, p.back (f13.trans f4)⟩

/-! ### and, or, not, if -/
variable {tA tB : TT3} {rest : List Expr}
def tAnd3 (t u : TT3) : TT3 := fun ρ M Q => t ρ M fun c M1 => if c = true then u ρ M1 Q else Q false M1
def tOr3 (t u : TT3) : TT3 := fun ρ M Q => t ρ M fun c M1 => if c = true then Q true M1 else u ρ M1 Q
def tNot3 (t : TT3) : TT3 := fun ρ M Q => t ρ M fun c M1 => Q (!c) M1
theorem k_and1 (ha : PT3 X a tA) : PW3 X (.BoolOp .And [a] pos) tA := ⟨fun wh pins s σ H ρ M Q I r h => thn (pw_and1 ha.dn wh pins s σ H _ I ⟨ρ, M, Q, r, h, fun _ _ z => z⟩) fun _ _ z => z⟩
theorem k_or1 (ha : PT3 X a tA) : PW3 X (.BoolOp .Or [a] pos) tA := ⟨fun wh pins s σ H ρ M Q I r h => thn (pw_or1 ha.dn wh pins s σ H _ I ⟨ρ, M, Q, r, h, fun _ _ z => z⟩) fun _ _ z => z⟩
theorem k_and (ha : PT3 X a tA) (hb : PW3 X (.BoolOp .And (b :: rest) pos) tB) : PW3 X (.BoolOp .And (a :: b :: rest) pos) (tAnd3 tA tB) := ⟨fun wh pins s σ H ρ M Q I r h =>
  pw_and ha.dn hb.dn wh pins s σ H _ I (dnT_of r h fun c H' M' f r' q => by
    cases c with
    | true => exact ⟨ρ, M', Q, r', q, fun _ _ p => p.back f⟩
    | false => exact ⟨M', f, r'.mem, q⟩)⟩
theorem k_or (ha : PT3 X a tA) (hb : PW3 X (.BoolOp .Or (b :: rest) pos) tB) : PW3 X (.BoolOp .Or (a :: b :: rest) pos) (tOr3 tA tB) := ⟨fun wh pins s σ H ρ M Q I r h =>
  pw_or ha.dn hb.dn wh pins s σ H _ I (dnT_of r h fun c H' M' f r' q => by
    cases c with
    | true => exact ⟨M', f, r'.mem, q⟩
    | false => exact ⟨ρ, M', Q, r', q, fun _ _ p => p.back f⟩)⟩
theorem k_not (ha : PT3 X a tA) : PT3 X (.UnaryOp .Not a pos) (tNot3 tA) := upT (pt_not ha.dn) fun σ H ρ M Q r h => dnT_of r h fun _ _ M' f r' q => ⟨M', f, r'.mem, q⟩
def tAndV3 (ta tb : TE3) : TE3 := fun ρ M Q => ta ρ M fun x M1 => ∃ c, x = .bl c ∧ if c = true then tb ρ M1 Q else Q (.bl false) M1
def tOrV3 (ta tb : TE3) : TE3 := fun ρ M Q => ta ρ M fun x M1 => ∃ c, x = .bl c ∧ if c = true then Q (.bl true) M1 else tb ρ M1 Q
def tNotV3 (ta : TE3) : TE3 := fun ρ M Q => ta ρ M fun x M1 => ∃ c, x = .bl c ∧ Q (.bl (!c)) M1
theorem q_one {op} {t : TE3} (h : PE3 X a t) : PE3 X (.BoolOp op [a] pos) t := ⟨fun pins s σ H ρ M Q I r hw => BoolOp_one (h.run pins s σ H ρ M Q I r hw)⟩
theorem q_and (ha : PE3 X a ta) (hb : PE3 X (.BoolOp .And (b :: rest) pos) tb) : PE3 X (.BoolOp .And (a :: b :: rest) pos) (tAndV3 ta tb) := up (pe_and ha.dn hb.dn) fun σ H ρ M Q r h => dn_of r h fun v H' d M' f dv r' ⟨k, ek, q⟩ => by
  subst ek
  obtain rfl := dat_bl.mp dv
  refine ⟨k, rfl, ?_⟩
  cases k with
  | true => exact ⟨ρ, M', Q, r', q, fun _ _ p => p.back f⟩
  | false => exact ⟨.bl false, M', f, dat_bl.mpr rfl, r'.mem, q⟩
theorem q_or (ha : PE3 X a ta) (hb : PE3 X (.BoolOp .Or (b :: rest) pos) tb) : PE3 X (.BoolOp .Or (a :: b :: rest) pos) (tOrV3 ta tb) := up (pe_or ha.dn hb.dn) fun σ H ρ M Q r h => dn_of r h fun v H' d M' f dv r' ⟨k, ek, q⟩ => by
  subst ek
  obtain rfl := dat_bl.mp dv
  refine ⟨k, rfl, ?_⟩
  cases k with
  | true => exact ⟨.bl true, M', f, dat_bl.mpr rfl, r'.mem, q⟩
  | false => exact ⟨ρ, M', Q, r', q, fun _ _ p => p.back f⟩
theorem q_not (ha : PE3 X a ta) : PE3 X (.UnaryOp .Not a pos) (tNotV3 ta) := up (pe_not ha.dn) fun σ H ρ M Q r h => dn_of r h fun v H' d M' f dv r' ⟨k, ek, q⟩ => by
  subst ek
  obtain rfl := dat_bl.mp dv
  exact ⟨k, rfl, .bl (!k), M', f, dat_bl.mpr rfl, r'.mem, q⟩
def tIf3 (t : TT3) (ta tb : TE3) : TE3 := fun ρ M Q => t ρ M fun c M1 => if c = true then ta ρ M1 Q else tb ρ M1 Q
theorem q_if {c : Expr} (hc : PT3 X c tA) (ha : PE3 X a ta) (hb : PE3 X b tb) : PE3 X (.IfExp c a b pos) (tIf3 tA ta tb) := up (pe_ifExp hc.dn ha.dn hb.dn) fun σ H ρ M Q r h => dnT_of r h fun k H' M' f r' q => by
  cases k with
  | true => exact ⟨ρ, M', Q, r', q, fun _ _ p => p.back f⟩
  | false => exact ⟨ρ, M', Q, r', q, fun _ _ p => p.back f⟩
/-- one-place operations -/
def tUn3 (t : D → Mp → DK → Prop) (ta : TE3) : TE3 := fun ρ M Q => ta ρ M fun x M1 => t x M1 Q
def rNeg : D → Mp → DK → Prop := fun d M Q => ∃ i, d = .int i ∧ Q (.int (-i)) M
theorem q_neg (ha : PE3 X a ta) : PE3 X (.UnaryOp .USub a pos) (tUn3 rNeg ta) := up (pe_un un_neg ha.dn) fun σ H ρ M Q r h => dn_of r h fun v H' d M' f dv r' ⟨i, ek, q⟩ => by
  subst ek
  obtain rfl := dat_int.mp dv
  exact ⟨i, rfl, .int (-i), M', f, dat_int.mpr rfl, r'.mem, q⟩

/-! ### ints -/
/-- i has less than n bits -/
def Sm (n : Nat) (i : Int) : Prop := i.natAbs < 2 ^ n
def MulOk (i j : Int) : Prop := ∃ m n, Sm m i ∧ Sm n j ∧ m + n ≤ 100000
theorem log2_of_lt {k n : Nat} (h : k < 2 ^ n) : k.log2 ≤ n := by
  rcases Nat.eq_zero_or_pos k with z | z
  · subst z; simp
  · exact Nat.le_of_lt (by rw [Nat.log2_lt (by omega)]; exact h)
theorem bits_of {n : Nat} {i : Int} (h : Sm n i) : Builtin.Int.intBits i ≤ n + 1 := by
  unfold Builtin.Int.intBits
  have := log2_of_lt h
  first
    | (split <;> omega)
    | omega
theorem MulOk.ok {i j : Int} (h : MulOk i j) : IntMulOk i j := by
  obtain ⟨m, n, h1, h2, h3⟩ := h
  have b1 := bits_of h1
  have b2 := bits_of h2
  exact IntMulOk.of_bits (by omega) (by omega)
def rInt (g : Int → Int → Int) : R3 := fun d e M Q => ∃ i j, d = .int i ∧ e = .int j ∧ Q (.int (g i j)) M
def rIntC (C : Int → Int → Prop) (g : Int → Int → Int) : R3 := fun d e M Q => ∃ i j, d = .int i ∧ e = .int j ∧ C i j ∧ Q (.int (g i j)) M
def rIntB (g : Int → Int → Bool) : R3 := fun d e M Q => ∃ i j, d = .int i ∧ e = .int j ∧ Q (.bl (g i j)) M
theorem int3 {f : Value → Value → Sem Value} {g : Int → Int → Int} (h : OpR X f (rI0 fun i j => .int (g i j))) : Op3 X f (rInt g) := op3 h fun H M x y d e Q rm dx dy ⟨i, j, e1, e2, q⟩ => by
  subst e1; subst e2
  exact ⟨i, j, dat_int.mp dx, dat_int.mp dy, post_self rm (dat_int.mpr rfl) q⟩
theorem int3C {f : Value → Value → Sem Value} {C : Int → Int → Prop} {g : Int → Int → Int} (h : OpR X f (rI C fun i j => .int (g i j))) : Op3 X f (rIntC C g) := op3 h fun H M x y d e Q rm dx dy ⟨i, j, e1, e2, hc, q⟩ => by
  subst e1; subst e2
  exact ⟨i, j, dat_int.mp dx, dat_int.mp dy, hc, post_self rm (dat_int.mpr rfl) q⟩
theorem int3B {f : Value → Value → Sem Value} {g : Int → Int → Bool} (h : OpR X f (rI0 fun i j => .bl (g i j))) : Op3 X f (rIntB g) := op3 h fun H M x y d e Q rm dx dy ⟨i, j, e1, e2, q⟩ => by
  subst e1; subst e2
  exact ⟨i, j, dat_int.mp dx, dat_int.mp dy, post_self rm (dat_bl.mpr rfl) q⟩
theorem o_add : Op3 X (binaryOp .Add) (rInt fun i j => i + j) := int3 op_add
theorem o_sub : Op3 X (binaryOp .Sub) (rInt fun i j => i - j) := int3 op_sub
theorem o_mul : Op3 X (binaryOp .Mult) (rIntC MulOk fun i j => i * j) := int3C (opI fun _ _ _ _ _ _ _ hc q => mul_int q hc.ok)
theorem o_mod : Op3 X (binaryOp .Mod) (rIntC (fun _ j => 0 < j) fun i j => i % j) := int3C op_mod
/-- a divisor above 0 of less than 8,000 bits -/
def DivOk (_ j : Int) : Prop := 0 < j ∧ ∃ n, Sm n j ∧ n ≤ 8000
def DivNOk (_ j : Int) : Prop := j ≠ 0 ∧ ∃ n, Sm n j ∧ n ≤ 8000
theorem o_fdivN : Op3 X (binaryOp .FloorDiv) (rIntC DivNOk fun i j => i.fdiv j) := int3C (opI fun i j _ _ _ _ _ hc q => floordiv_int hc.1 q (.inl (PyProof.noPylong_of_log2 (by
  obtain ⟨_, n, h1, h2⟩ := hc
  have := log2_of_lt h1
  omega))))
theorem o_fdiv : Op3 X (binaryOp .FloorDiv) (rIntC DivOk fun i j => i / j) := int3C (opI fun i j _ _ _ _ _ hc q => floordiv_int (by have := hc.1; omega) (by rw [Int.fdiv_eq_ediv_of_nonneg _ (by have := hc.1; omega)]; exact q) (.inl (PyProof.noPylong_of_log2 (by
  obtain ⟨_, n, h1, h2⟩ := hc
  have := log2_of_lt h1
  omega))))
def PowOk (i j : Int) : Prop := 0 ≤ j ∧ j ≤ 1000 ∧ i.natAbs < 2 ^ 400
theorem PowOk.bits {i j : Int} (h : PowOk i j) : (Builtin.Int.intBits i : Int) * j ≤ 2 ^ 27 := by
  have hb : Builtin.Int.intBits i ≤ 401 := bits_of (n := 400) h.2.2
  have h1 : (Builtin.Int.intBits i : Int) * j ≤ 401 * j := Int.mul_le_mul_of_nonneg_right (by omega) h.1
  have := h.2.1
  omega
theorem o_pow : Op3 X (binaryOp .Pow) (rIntC PowOk fun i j => i ^ j.toNat) := int3C (opI fun _ _ _ _ _ _ _ hc q => pow_int hc.1 hc.bits q)
theorem o_lt : Op3 X (compareOp .Lt) (rIntB fun i j => decide (i < j)) := int3B op_lt
theorem o_le : Op3 X (compareOp .LtE) (rIntB fun i j => decide (i ≤ j)) := int3B op_le
theorem o_gt : Op3 X (compareOp .Gt) (rIntB fun i j => decide (j < i)) := int3B op_gt
theorem o_ge : Op3 X (compareOp .GtE) (rIntB fun i j => decide (j ≤ i)) := int3B op_ge
/-- == of two ints, two bools, two texts, None -/
inductive Sca where
  | non | bl (b : Bool) | int (i : Int) | str (x : Str)
  deriving DecidableEq
def Sca.d : Sca → D | .non => .non | .bl b => .bl b | .int i => .int i | .str x => .str x
def Sca.v : Sca → V | .non => .non | .bl b => .bl b | .int i => .int i | .str x => .str x
theorem Sca.dat {K : PySem.W.Frag} {H : Hp} {a : Sca} {v : V} (h : Dat K H a.d v) : v = a.v := by
  cases a with
  | non => exact dat_non.mp h
  | bl b => exact dat_bl.mp h
  | int i => exact dat_int.mp h
  | str x => exact dat_str.mp h
end
end L3

/-! ==, !=, in, not in, < over data. -/
namespace L3
open PySem PySem.Spec PyProof.Rows L2
mutual
def eqD : D → D → Bool
  | .non, e => match e with | .non => true | _ => false
  | .bl a, e => match e with | .bl b => a == b | .int b => (if a then 1 else 0) == b | _ => false
  | .int a, e => match e with | .bl b => a == (if b then 1 else 0) | .int b => a == b | _ => false
  | .str a, e => match e with | .str b => a == b | _ => false
  | .tup as, e => match e with | .tup bs => eqDs as bs | _ => false
  | .ty _, _ => false
  | .ref _, _ => false
  | .frl _, _ => false
  | .thg _, _ => false
def eqDs : List D → List D → Bool
  | [], e => match e with | [] => true | _ => false
  | a :: as, e => match e with | [] => false | b :: bs => eqD a b && eqDs as bs
end
/-- data without addresses, at most n deep -/
def plain : Nat → D → Bool
  | _, .non => true
  | _, .bl _ => true
  | _, .int _ => true
  | _, .str _ => true
  | n + 1, .tup ds => ds.all (plain n)
  | _, _ => false
theorem eqDs_nil : eqDs [] [] = true := by simp [eqDs]
theorem eqDs_cons (a b : D) (as bs : List D) : eqDs (a :: as) (b :: bs) = (eqD a b && eqDs as bs) := by simp [eqDs]
theorem eqD_tup (as bs : List D) : eqD (.tup as) (.tup bs) = eqDs as bs := by simp [eqD]
theorem eqD_int (a b : Int) : eqD (.int a) (.int b) = (a == b) := by simp [eqD]
theorem eqD_bl (a b : Bool) : eqD (.bl a) (.bl b) = (a == b) := by simp [eqD]
theorem eqD_str (a b : Str) : eqD (.str a) (.str b) = (a == b) := by simp [eqD]
theorem eqDs_all : ∀ (ds es : List D), eqDs ds es = ((List.range (min ds.length es.length)).all (fun j => eqD (ds.getD j .non) (es.getD j .non)) && (ds.length == es.length))
  | [], [] => by simp [eqDs]
  | [], e :: es => by simp [eqDs]
  | d :: ds, [] => by simp [eqDs]
  | d :: ds, e :: es => by
    rw [eqDs_cons, eqDs_all ds es]
    have h : min (d :: ds).length (e :: es).length = min ds.length es.length + 1 := by simp only [List.length_cons]; omega
    rw [h, List.range_succ_eq_map, List.all_cons, List.all_map]
    simp only [List.getD_cons_zero, List.length_cons]
    have h2 : ((fun j => eqD ((d :: ds).getD j D.non) ((e :: es).getD j D.non)) ∘ Nat.succ) = fun j => eqD (ds.getD j D.non) (es.getD j D.non) := by
      funext j; simp
    rw [h2]
    have h3 : (ds.length + 1 == es.length + 1) = (ds.length == es.length) := by
      rw [Bool.eq_iff_iff]; simp
    rw [h3, Bool.and_assoc]
theorem plain_tup {n : Nat} {ds : List D} (h : plain n (.tup ds) = true) : ∃ m, n = m + 1 ∧ ds.all (plain m) = true := by
  cases n with
  | zero => simp [plain] at h
  | succ m => exact ⟨m, rfl, by simpa [plain] using h⟩
theorem eqD_refl : ∀ (n : Nat) (d : D), plain n d = true → eqD d d = true := by
  intro n
  induction n with
  | zero => intro d h; cases d <;> simp [plain] at h <;> simp [eqD]
  | succ n ih =>
    intro d h
    cases d with
    | tup ds =>
      have h : ds.all (plain n) = true := by simpa [plain] using h
      rw [eqD_tup]
      have : ∀ (es : List D), es.all (plain n) = true → eqDs es es = true := by
        intro es
        induction es with
        | nil => intro _; exact eqDs_nil
        | cons e es ihe =>
          intro h
          rw [List.all_cons, Bool.and_eq_true] at h
          rw [eqDs_cons, ih e h.1, ihe h.2]; rfl
      exact this ds h
    | _ => first | (simp [plain] at h; done) | (simp [eqD]; done)
section
variable {K : PySem.W.Frag} {H : Hp}
theorem Dat.inj : ∀ (n : Nat) (d e : D) (v : V), plain n d = true → plain n e = true → Dat K H d v → Dat K H e v → d = e := by
  intro n
  induction n with
  | zero =>
    intro d e v pd pe hd he
    cases d <;> simp [plain] at pd <;> cases e <;> simp [plain] at pe <;> simp only [Dat] at hd he <;> subst hd <;> first | rfl | (injection he with z; rw [z]) | cases he
  | succ n ih =>
    intro d e v pd pe hd he
    have lists : ∀ (ds es : List D) (xs : List V), ds.all (plain n) = true → es.all (plain n) = true → Dats K H ds xs → Dats K H es xs → ds = es := by
      intro ds
      induction ds with
      | nil =>
        intro es xs _ _ h1 h2
        rw [dats_nil.mp h1] at h2
        cases es with
        | nil => rfl
        | cons e es => obtain ⟨_, _, z, _⟩ := dats_cons.mp h2; cases z
      | cons d ds ihd =>
        intro es xs p1 p2 h1 h2
        obtain ⟨v, vs, rfl, g1, g2⟩ := dats_cons.mp h1
        cases es with
        | nil => cases dats_nil.mp h2
        | cons e es =>
          obtain ⟨v', vs', z, g3, g4⟩ := dats_cons.mp h2
          injection z with z1 z2
          subst z1; subst z2
          rw [List.all_cons, Bool.and_eq_true] at p1 p2
          rw [ih d e v p1.1 p2.1 g1 g3, ihd es vs p1.2 p2.2 g2 g4]
    cases d with
    | tup ds =>
      obtain ⟨a, xs, rfl, ha, hx⟩ := dat_tup.mp hd
      cases e with
      | tup es =>
        obtain ⟨b, ys, z, hb, hy⟩ := dat_tup.mp he
        injection z with z
        subst z
        rw [ha] at hb
        injection hb with hb
        injection hb with hb
        subst hb
        rw [lists ds es xs (by simpa [plain] using pd) (by simpa [plain] using pe) hx hy]
      | _ => first | (simp [plain] at pe; done) | (simp only [Dat] at he; cases he)
    | _ => first
      | (simp [plain] at pd; done)
      | (cases e <;> first
          | (simp [plain] at pe; done)
          | (obtain ⟨b, ys, z, hb, hy⟩ := dat_tup.mp he; simp only [Dat] at hd; subst hd; cases z; done)
          | (simp only [Dat] at hd he; subst hd; first | rfl | (injection he with z; rw [z]) | cases he))
end
theorem all_get {α : Type} {p : α → Bool} {xs : List α} (h : xs.all p = true) {i : Nat} {x : α} (e : xs[i]? = some x) : p x = true := (List.all_eq_true.mp h) x (List.mem_of_getElem? e)
section
variable {X : Cx} {pins : List (Addr × Obj)} {σ : St} {H : Hp} {s : Shared}
theorem tup_at {P : Program} {w : World} {h : Heap} {a : Addr} {xs : List V} (ok : HOk P w H h) (e : H a = some (.tup xs)) : ∃ its : List Value, Vals xs its ∧ IsTup h a its.toArray ∧ xs.length ≤ sizeLine := by
  obtain ⟨z, its, r, p⟩ := (show ObjOk P w H h a (.tup xs) from ok a _ e)
  exact ⟨its, r, p, z⟩
/-- == of two data -/
theorem eqAt_D {P : Program} {w : World} (ok : HOk P w H s.heap) {K : PySem.W.Frag} : ∀ (n : Nat) (A : Around) (d e : D) (x y : V) (u v : Value), A.units + n < cLine → plain n d = true → plain n e = true → Dat K H d x → Dat K H e y → RelV x u → RelV y v → SeqAt.EqAt A s u v (eqD d e) := by
  intro n
  induction n with
  | zero =>
    intro A d e x y u v hu pd pe dx dy rx ry
    cases d with
    | tup ds => simp [plain] at pd
    | ty _ => simp [plain] at pd
    | ref _ => simp [plain] at pd
    | frl _ => simp [plain] at pd
    | thg _ => simp [plain] at pd
    | non =>
      obtain rfl := dat_non.mp dx
      cases rx
      cases e with
      | non => obtain rfl := dat_non.mp dy; cases ry; simpa [eqD] using SeqAt.EqAt.same (A := A) (s := s) Value.none
      | bl b => obtain rfl := dat_bl.mp dy; cases ry; simpa [eqD] using SeqAt.EqAt.none_bool (A := A) (s := s) b
      | int b => obtain rfl := dat_int.mp dy; obtain ⟨t, rfl⟩ := ry; simpa [eqD] using SeqAt.EqAt.none_int (A := A) (s := s) b t
      | str b => obtain rfl := dat_str.mp dy; obtain ⟨t, rfl⟩ := ry; simpa [eqD] using SeqAt.EqAt.none_str (A := A) (s := s) b t
      | _ => simp [plain] at pe
    | bl a =>
      obtain rfl := dat_bl.mp dx
      cases rx
      cases e with
      | non => obtain rfl := dat_non.mp dy; cases ry; simpa [eqD] using SeqAt.EqAt.bool_none (A := A) (s := s) a
      | bl b => obtain rfl := dat_bl.mp dy; cases ry; simpa [eqD] using SeqAt.EqAt.bool_bool (A := A) (s := s) a b
      | int b => obtain rfl := dat_int.mp dy; obtain ⟨t, rfl⟩ := ry; simpa [eqD] using SeqAt.EqAt.bool_int (A := A) (s := s) a b t
      | str b => obtain rfl := dat_str.mp dy; obtain ⟨t, rfl⟩ := ry; simpa [eqD] using SeqAt.EqAt.bool_str (A := A) (s := s) a b t
      | _ => simp [plain] at pe
    | int a =>
      obtain rfl := dat_int.mp dx
      obtain ⟨t', rfl⟩ := rx
      cases e with
      | non => obtain rfl := dat_non.mp dy; cases ry; simpa [eqD] using SeqAt.EqAt.int_none (A := A) (s := s) a t'
      | bl b => obtain rfl := dat_bl.mp dy; cases ry; simpa [eqD] using SeqAt.EqAt.int_bool (A := A) (s := s) a t' b
      | int b => obtain rfl := dat_int.mp dy; obtain ⟨t, rfl⟩ := ry; simpa [eqD] using SeqAt.EqAt.int_int (A := A) (s := s) a t' b t
      | str b => obtain rfl := dat_str.mp dy; obtain ⟨t, rfl⟩ := ry; simpa [eqD] using SeqAt.EqAt.int_str (A := A) (s := s) a t' b t
      | _ => simp [plain] at pe
    | str a =>
      obtain rfl := dat_str.mp dx
      obtain ⟨t', rfl⟩ := rx
      cases e with
      | non => obtain rfl := dat_non.mp dy; cases ry; simpa [eqD] using SeqAt.EqAt.str_none (A := A) (s := s) a t'
      | bl b => obtain rfl := dat_bl.mp dy; cases ry; simpa [eqD] using SeqAt.EqAt.str_bool (A := A) (s := s) a t' b
      | int b => obtain rfl := dat_int.mp dy; obtain ⟨t, rfl⟩ := ry; simpa [eqD] using SeqAt.EqAt.str_int (A := A) (s := s) a t' b t
      | str b => obtain rfl := dat_str.mp dy; obtain ⟨t, rfl⟩ := ry; simpa [eqD] using SeqAt.EqAt.str_str (A := A) (s := s) a t' b t
      | _ => simp [plain] at pe
  | succ n ih =>
    intro A d e x y u v hu pd pe dx dy rx ry
    have flat : ∀ (z : D), plain (n + 1) z = true → (∀ zs, z ≠ .tup zs) → plain n z = true := by
      intro z pz nz
      cases z with
      | tup zs => exact absurd rfl (nz zs)
      | _ => first | (simp [plain]; done) | (simp [plain] at pz; done)
    have hun : A.units < cLine := by omega
    cases d with
    | tup ds =>
      obtain ⟨a, xs, rfl, ha, hx⟩ := dat_tup.mp dx
      obtain rfl : u = Value.ref a := rx
      obtain ⟨its, rv, pt, hz⟩ := tup_at ok ha
      cases e with
      | tup es =>
        obtain ⟨b, ys, rfl, hb, hy⟩ := dat_tup.mp dy
        obtain rfl : v = Value.ref b := ry
        obtain ⟨its2, rv2, pt2, hz2⟩ := tup_at ok hb
        by_cases hab : a = b
        · subst hab
          have := Dat.inj (K := K) (H := H) (n + 1) _ _ _ pd pe dx dy
          rw [← this, eqD_refl (n + 1) _ pd]
          exact SeqAt.EqAt.same _
        · refine SeqAt.EqAt.of_refs hab ?_
          have hl1 := hx.length.trans rv.length
          have hl2 := hy.length.trans rv2.length
          have key := SeqAt.RcAt.tuples (A := A) (s := s) (e := fun j => eqD (ds.getD j .non) (es.getD j .non)) pt pt2 hun (fun j h1 h2 => ?_)
          · rw [eqD_tup, eqDs_all]
            simp only [List.size_toArray, ← hl1, ← hl2] at key
            exact key
          · simp only [List.size_toArray] at h1 h2
            have e1 : ds[j]? = some (ds.getD j .non) := by rw [List.getD_eq_getElem?_getD, List.getElem?_eq_getElem (by omega)]; rfl
            have e2 : es[j]? = some (es.getD j .non) := by rw [List.getD_eq_getElem?_getD, List.getElem?_eq_getElem (by omega)]; rfl
            obtain ⟨x1, g1, g2⟩ := hx.get e1
            obtain ⟨y1, g3, g4⟩ := hy.get e2
            obtain ⟨u1, g5, g6⟩ := rv.get g1
            obtain ⟨v1, g7, g8⟩ := rv2.get g3
            have q1 : its.toArray[j] = u1 := by
              have : its[j] = u1 := Option.some.inj ((List.getElem?_eq_getElem (by omega)).symm.trans g5)
              simpa using this
            have q2 : its2.toArray[j] = v1 := by
              have : its2[j] = v1 := Option.some.inj ((List.getElem?_eq_getElem (by omega)).symm.trans g7)
              simpa using this
            rw [q1, q2]
            have pd' : ds.all (plain n) = true := by simpa [plain] using pd
            have pe' : es.all (plain n) = true := by simpa [plain] using pe
            exact ih A.in1 _ _ x1 y1 u1 v1 (by show A.units + 1 + n < cLine; omega) (all_get pd' e1) (all_get pe' e2) g2 g4 g6 g8
      | non => obtain rfl := dat_non.mp dy; cases ry; simpa [eqD] using SeqAt.EqAt.tuple_none (A := A) (s := s) pt hun
      | bl b => obtain rfl := dat_bl.mp dy; cases ry; simpa [eqD] using SeqAt.EqAt.tuple_bool (A := A) (s := s) b pt hun
      | int b => obtain rfl := dat_int.mp dy; obtain ⟨t, rfl⟩ := ry; simpa [eqD] using SeqAt.EqAt.tuple_int (A := A) (s := s) b t pt hun
      | str b => obtain rfl := dat_str.mp dy; obtain ⟨t, rfl⟩ := ry; simpa [eqD] using SeqAt.EqAt.tuple_str (A := A) (s := s) b t pt hun
      | _ => simp [plain] at pe
    | _ =>
      first
      | (simp [plain] at pd; done)
      | (cases e with
          | tup es =>
            obtain ⟨b, ys, rfl, hb, hy⟩ := dat_tup.mp dy
            obtain rfl : v = Value.ref b := ry
            obtain ⟨its2, rv2, pt2, hz2⟩ := tup_at ok hb
            first
            | (obtain rfl := dat_non.mp dx; cases rx; simpa [eqD] using SeqAt.EqAt.none_tuple (A := A) (s := s) pt2 hun)
            | (obtain rfl := dat_bl.mp dx; cases rx; simpa [eqD] using SeqAt.EqAt.bool_tuple (A := A) (s := s) _ pt2 hun)
            | (obtain rfl := dat_int.mp dx; obtain ⟨t, rfl⟩ := rx; simpa [eqD] using SeqAt.EqAt.int_tuple (A := A) (s := s) _ t pt2 hun)
            | (obtain rfl := dat_str.mp dx; obtain ⟨t, rfl⟩ := rx; simpa [eqD] using SeqAt.EqAt.str_tuple (A := A) (s := s) _ t pt2 hun)
          | _ =>
            first
            | (simp [plain] at pe; done)
            | exact ih A _ _ x y u v (by omega) (flat _ pd (fun _ z => by cases z)) (flat _ pe (fun _ z => by cases z)) dx dy rx ry)

/-- which two == may be asked of here -/
def scaD : D → D → Bool
  | .non, .non => true | .non, .int _ => true | .int _, .non => true | .non, .bl _ => true | .bl _, .non => true | .non, .str _ => true | .str _, .non => true
  | .int _, .int _ => true | .bl _, .bl _ => true | .str _, .str _ => true
  | _, _ => false
def okEq (d e : D) : Bool := match d, e with
  | .tup ds, .tup es => plain 10 (.tup ds) && plain 10 (.tup es)
  | d, e => scaD d e
def rEqD : R3 := fun d e M Q => okEq d e = true ∧ Q (.bl (eqD d e)) M
def rNeD : R3 := fun d e M Q => okEq d e = true ∧ Q (.bl (!eqD d e)) M
theorem sca_of {K : PySem.W.Frag} {d e : D} {x y : V} (h : scaD d e = true) (dx : Dat K H d x) (dy : Dat K H e y) : scal x y = true ∧ decide (x = y) = eqD d e := by
  cases d <;> cases e <;> first
    | (simp [scaD] at h; done)
    | (simp only [Dat] at dx dy; subst dx; subst dy; refine ⟨rfl, ?_⟩; rw [Bool.eq_iff_iff]; simp [eqD])
theorem parts_eq {P : Program} {w : World} (ok : HOk P w H s.heap) {K : PySem.W.Frag} {A : Around} {ds es : List D} {xs ys : List V} {its its2 : List Value} {n : Nat} (hu : A.units + n < cLine) (pd : ds.all (plain n) = true) (pe : es.all (plain n) = true) (hx : Dats K H ds xs) (hy : Dats K H es ys) (rv : Vals xs its) (rv2 : Vals ys its2) :
    ∀ j (h1 : j < its.toArray.size) (h2 : j < its2.toArray.size), SeqAt.EqAt A s its.toArray[j] its2.toArray[j] (eqD (ds.getD j .non) (es.getD j .non)) := by
  intro j h1 h2
  have hl1 := hx.length.trans rv.length
  have hl2 := hy.length.trans rv2.length
  simp only [List.size_toArray] at h1 h2
  have e1 : ds[j]? = some (ds.getD j .non) := by rw [List.getD_eq_getElem?_getD, List.getElem?_eq_getElem (by omega)]; rfl
  have e2 : es[j]? = some (es.getD j .non) := by rw [List.getD_eq_getElem?_getD, List.getElem?_eq_getElem (by omega)]; rfl
  obtain ⟨x1, g1, g2⟩ := hx.get e1
  obtain ⟨y1, g3, g4⟩ := hy.get e2
  obtain ⟨u1, g5, g6⟩ := rv.get g1
  obtain ⟨v1, g7, g8⟩ := rv2.get g3
  have q1 : its.toArray[j] = u1 := by
    have : its[j] = u1 := Option.some.inj ((List.getElem?_eq_getElem (by omega)).symm.trans g5)
    simpa using this
  have q2 : its2.toArray[j] = v1 := by
    have : its2[j] = v1 := Option.some.inj ((List.getElem?_eq_getElem (by omega)).symm.trans g7)
    simpa using this
  rw [q1, q2]
  exact eqAt_D ok n A _ _ x1 y1 u1 v1 hu (all_get pd e1) (all_get pe e2) g2 g4 g6 g8
theorem o_eq (hu : X.A.units + 64 < cLine) : Op3 X (compareOp .Eq) rEqD := by
  constructor
  intro pins s σ H M x y d e v u Q I rm rx ry dx dy ⟨hk, q⟩
  by_cases ht : ∃ ds es, d = .tup ds ∧ e = .tup es
  · obtain ⟨ds, es, rfl, rfl⟩ := ht
    have hk : (plain 10 (.tup ds) && plain 10 (.tup es)) = true := hk
    rw [Bool.and_eq_true] at hk
    obtain ⟨a, xs, rfl, ha, hx⟩ := dat_tup.mp dx
    obtain ⟨b, ys, rfl, hb, hy⟩ := dat_tup.mp dy
    obtain rfl : v = Value.ref a := rx
    obtain rfl : u = Value.ref b := ry
    obtain ⟨its, rv, pt, hz⟩ := tup_at I.hok ha
    obtain ⟨its2, rv2, pt2, hz2⟩ := tup_at I.hok hb
    have hl1 := hx.length.trans rv.length
    have hl2 := hy.length.trans rv2.length
    refine SeqAt.RcAt.tuples (A := X.A) (s := s) (e := fun j => eqD (ds.getD j .non) (es.getD j .non)) pt pt2 (by omega) (parts_eq I.hok (n := 9) (by show X.A.units + 1 + 9 < cLine; omega) (by simpa [plain] using hk.1) (by simpa [plain] using hk.2) hx hy rv rv2) _ _ _ _ ?_
    refine ⟨.bl _, H, I, rfl, post_self rm (dat_bl.mpr rfl) ?_⟩
    simp only [List.size_toArray, ← hl1, ← hl2]
    rw [eqD_tup, eqDs_all] at q
    exact q
  · have hs : scaD d e = true := by
      unfold okEq at hk
      split at hk
      · exact absurd ⟨_, _, rfl, rfl⟩ ht
      · exact hk
    obtain ⟨h1, h2⟩ := sca_of hs dx dy
    exact op_eq pins s σ H x y v u _ I rx ry ⟨h1, by rw [h2]; exact post_self rm (dat_bl.mpr rfl) q⟩
theorem o_ne (hu : X.A.units + 64 < cLine) : Op3 X (compareOp .NotEq) rNeD := by
  constructor
  intro pins s σ H M x y d e v u Q I rm rx ry dx dy ⟨hk, q⟩
  by_cases ht : ∃ ds es, d = .tup ds ∧ e = .tup es
  · obtain ⟨ds, es, rfl, rfl⟩ := ht
    have hk : (plain 10 (.tup ds) && plain 10 (.tup es)) = true := hk
    rw [Bool.and_eq_true] at hk
    obtain ⟨a, xs, rfl, ha, hx⟩ := dat_tup.mp dx
    obtain ⟨b, ys, rfl, hb, hy⟩ := dat_tup.mp dy
    obtain rfl : v = Value.ref a := rx
    obtain rfl : u = Value.ref b := ry
    obtain ⟨its, rv, pt, hz⟩ := tup_at I.hok ha
    obtain ⟨its2, rv2, pt2, hz2⟩ := tup_at I.hok hb
    have hl1 := hx.length.trans rv.length
    have hl2 := hy.length.trans rv2.length
    refine SeqAt.RcNeAt.tuples (A := X.A) (s := s) (e := fun j => eqD (ds.getD j .non) (es.getD j .non)) pt pt2 (by omega) (parts_eq I.hok (n := 9) (by show X.A.units + 1 + 9 < cLine; omega) (by simpa [plain] using hk.1) (by simpa [plain] using hk.2) hx hy rv rv2) _ _ _ _ ?_
    refine ⟨.bl _, H, I, rfl, post_self rm (dat_bl.mpr rfl) ?_⟩
    simp only [List.size_toArray, ← hl1, ← hl2]
    rw [eqD_tup, eqDs_all] at q
    exact q
  · have hs : scaD d e = true := by
      unfold okEq at hk
      split at hk
      · exact absurd ⟨_, _, rfl, rfl⟩ ht
      · exact hk
    obtain ⟨h1, h2⟩ := sca_of hs dx dy
    exact op_ne pins s σ H x y v u _ I rx ry ⟨h1, by rw [h2]; exact post_self rm (dat_bl.mpr rfl) q⟩

/-! ### in, not in: a tuple, a list of data -/
/-- the data of a value -/
noncomputable def dOf (K : PySem.W.Frag) (H : Hp) (v : V) : D := open Classical in if h : ∃ d, plain 9 d = true ∧ Dat K H d v then h.choose else .non
theorem dOf_eq {K : PySem.W.Frag} {d : D} {v : V} (p : plain 9 d = true) (h : Dat K H d v) : dOf K H v = d := by
  have hx : ∃ d, plain 9 d = true ∧ Dat K H d v := ⟨d, p, h⟩
  unfold dOf
  rw [dif_pos hx]
  exact Dat.inj 9 _ _ v hx.choose_spec.1 p hx.choose_spec.2 h
noncomputable def eOf (K : PySem.W.Frag) (H : Hp) (d : D) (u : Value) : Bool := match absV u with
  | some v => eqD (dOf K H v) d
  | none => false
theorem eOf_eq {K : PySem.W.Frag} {d e : D} {v : V} {u : Value} (p : plain 9 e = true) (h : Dat K H e v) (r : RelV v u) : eOf K H d u = eqD e d := by
  unfold eOf
  rw [r.abs]
  show eqD (dOf K H v) d = _
  rw [dOf_eq p h]
theorem any_eOf {K : PySem.W.Frag} {d : D} : ∀ {es : List D} {xs : List V} {us : List Value}, Dats K H es xs → Vals xs us → es.all (plain 9) = true → us.any (eOf K H d) = es.any fun e => eqD e d
  | [], xs, us, h, r, _ => by rw [dats_nil.mp h] at r; cases r; rfl
  | e :: es, xs, us, h, r, p => by
    obtain ⟨v, vs, rfl, h1, h2⟩ := dats_cons.mp h
    cases r with
    | cons r rr =>
      rw [List.all_cons, Bool.and_eq_true] at p
      rw [List.any_cons, List.any_cons, eOf_eq p.1 h1 r, any_eOf h2 rr p.2]
theorem mem_eOf {P : Program} {w : World} (ok : HOk P w H s.heap) {K : PySem.W.Frag} {A : Around} {d : D} {x : V} {v : Value} (hu : A.units + 9 < cLine) (pd : plain 9 d = true) (dx : Dat K H d x) (rx : RelV x v) :
    ∀ {es : List D} {xs : List V} {us : List Value}, Dats K H es xs → Vals xs us → es.all (plain 9) = true → ∀ u ∈ us, SeqAt.EqAt A s u v (eOf K H d u)
  | [], xs, us, h, r, _, u, hm => by rw [dats_nil.mp h] at r; cases r; cases hm
  | e :: es, xs, us, h, r, p, u, hm => by
    obtain ⟨y, ys, rfl, h1, h2⟩ := dats_cons.mp h
    cases r with
    | cons r rr =>
      rw [List.all_cons, Bool.and_eq_true] at p
      rcases List.mem_cons.mp hm with rfl | hm
      · rw [eOf_eq p.1 h1 r]
        exact eqAt_D ok 9 A _ _ _ _ _ _ hu p.1 pd h1 dx r rx
      · exact mem_eOf ok hu pd dx rx h2 rr p.2 u hm
def inD (d : D) (es : List D) : Bool := es.any fun e => eqD e d
/-- what may stand behind in: a tuple; a list of M -/
def Seq3 (M : Mp) (e : D) (es : List D) : Prop := e = .tup es ∨ ∃ a, e = .ref a ∧ M a = some (.lst es)
def rInD (neg : Bool) : R3 := fun d e M Q => ∃ es, Seq3 M e es ∧ plain 9 d = true ∧ es.all (plain 9) = true ∧ Q (.bl (if neg then !inD d es else inD d es)) M
theorem o_in (hu : X.A.units + 64 < cLine) : Op3 X (compareOp .In) (rInD false) := by
  constructor
  intro pins s σ H M x y d e v u Q I rm rx ry dx dy ⟨es, hs, pd, pe, q⟩
  rcases hs with rfl | ⟨a, rfl, hM⟩
  · obtain ⟨b, ys, rfl, hb, hy⟩ := dat_tup.mp dy
    obtain rfl : u = Value.ref b := ry
    obtain ⟨its, rv, pt, hz⟩ := tup_at I.hok hb
    refine SeqAt.in_tupleAt (eOf X.K H d) pt (fun w hw => mem_eOf I.hok (by show X.A.units + 1 + 9 < cLine; omega) pd dx rx hy rv pe w (by simpa using hw)) ⟨.bl _, H, I, rfl, post_self rm (dat_bl.mpr rfl) ?_⟩
    rw [show its.toArray.any (eOf X.K H d) = its.any (eOf X.K H d) by simp, any_eOf hy rv pe]
    exact q
  · obtain rfl := dat_ref.mp dy
    obtain rfl : u = Value.ref a := ry
    obtain ⟨ys, hb, hy⟩ := rm.lst hM
    obtain ⟨its, rv, pl, hz⟩ := I.list (SqL.of hb)
    refine SeqAt.in_listAt (eOf X.K H d) pl.isList (fun w hw => mem_eOf I.hok (by show X.A.units + 1 + 9 < cLine; omega) pd dx rx hy rv pe w (by simpa using hw)) ⟨.bl _, H, I, rfl, post_self rm (dat_bl.mpr rfl) ?_⟩
    rw [show its.toArray.any (eOf X.K H d) = its.any (eOf X.K H d) by simp, any_eOf hy rv pe]
    exact q
theorem o_notIn (hu : X.A.units + 64 < cLine) : Op3 X (compareOp .NotIn) (rInD true) := by
  constructor
  intro pins s σ H M x y d e v u Q I rm rx ry dx dy ⟨es, hs, pd, pe, q⟩
  rcases hs with rfl | ⟨a, rfl, hM⟩
  · obtain ⟨b, ys, rfl, hb, hy⟩ := dat_tup.mp dy
    obtain rfl : u = Value.ref b := ry
    obtain ⟨its, rv, pt, hz⟩ := tup_at I.hok hb
    refine SeqAt.notIn_tupleAt (eOf X.K H d) pt (fun w hw => mem_eOf I.hok (by show X.A.units + 1 + 9 < cLine; omega) pd dx rx hy rv pe w (by simpa using hw)) ⟨.bl _, H, I, rfl, post_self rm (dat_bl.mpr rfl) ?_⟩
    rw [show its.toArray.any (eOf X.K H d) = its.any (eOf X.K H d) by simp, any_eOf hy rv pe]
    exact q
  · obtain rfl := dat_ref.mp dy
    obtain rfl : u = Value.ref a := ry
    obtain ⟨ys, hb, hy⟩ := rm.lst hM
    obtain ⟨its, rv, pl, hz⟩ := I.list (SqL.of hb)
    refine SeqAt.notIn_listAt (eOf X.K H d) pl.isList (fun w hw => mem_eOf I.hok (by show X.A.units + 1 + 9 < cLine; omega) pd dx rx hy rv pe w (by simpa using hw)) ⟨.bl _, H, I, rfl, post_self rm (dat_bl.mpr rfl) ?_⟩
    rw [show its.toArray.any (eOf X.K H d) = its.any (eOf X.K H d) by simp, any_eOf hy rv pe]
    exact q

/-! ### < of two tuples of ints -/
theorem ints_dats {K : PySem.W.Frag} : ∀ {ns : List Int} {xs : List V}, Dats K H (ns.map D.int) xs → xs = ns.map V.int
  | [], xs, h => dats_nil.mp h
  | n :: ns, xs, h => by
    obtain ⟨v, vs, rfl, h1, h2⟩ := dats_cons.mp h
    rw [dat_int.mp h1, ints_dats h2]; rfl
def rLtT : R3 := fun d e M Q => ∃ ns ms : List Int, d = .tup (ns.map D.int) ∧ e = .tup (ms.map D.int) ∧ Q (.bl (HT.lexLt ns ms)) M
theorem o_ltT (hu : X.A.units + 64 < cLine) : Op3 X (compareOp .Lt) rLtT := by
  constructor
  intro pins s σ H M x y d e v u Q I rm rx ry dx dy ⟨ns, ms, e1, e2, q⟩
  subst e1; subst e2
  obtain ⟨a, xs, rfl, ha, hx⟩ := dat_tup.mp dx
  obtain ⟨b, ys, rfl, hb, hy⟩ := dat_tup.mp dy
  obtain rfl : v = Value.ref a := rx
  obtain rfl : u = Value.ref b := ry
  obtain ⟨its, rv, pt, hz⟩ := tup_at I.hok ha
  obtain ⟨its2, rv2, pt2, hz2⟩ := tup_at I.hok hb
  rw [ints_dats hx] at rv
  rw [ints_dats hy] at rv2
  exact HT.lt_tupInts pt pt2 (by simpa using intsAre_of rv) (by simpa using intsAre_of rv2) (by omega) ⟨.bl _, H, I, rfl, post_self rm (dat_bl.mpr rfl) q⟩
/-- is not True, is not False, of an int -/
def rIsNotB : R3 := fun d e M Q => ∃ i b, d = .int i ∧ e = .bl b ∧ Q (.bl true) M
theorem o_isNotB : Op3 X (compareOp .IsNot) rIsNotB := by
  constructor
  intro pins s σ H M x y d e v u Q I rm rx ry dx dy ⟨i, b, e1, e2, q⟩
  subst e1; subst e2
  obtain rfl := dat_int.mp dx
  obtain rfl := dat_bl.mp dy
  obtain ⟨t, rfl⟩ := rx
  cases ry
  exact wpAny_isNot_other rfl (fun z => by cases z) ⟨.bl true, H, I, rfl, post_self rm (dat_bl.mpr rfl) q⟩
end
end L3

/-! Displays, subscripts, calls, statements, loops, defs over the pure layer. -/
namespace L3
open PySem PySem.Spec PyProof.Rows L2
section
variable {X : Cx} {a b c e : Expr} {es : List Expr} {ta tb tc te : TE3} {t : TA3} {pos p : Pos}

/-! ### argument lists, displays -/
def tNil3 : TA3 := fun _ M Q => Q [] M
def tCons3 (ta : TE3) (tr : TA3) : TA3 := fun ρ M Q => ta ρ M fun x M1 => tr ρ M1 fun xs M2 => Q (x :: xs) M2
theorem a_nil : PA3 X [] tNil3 := ⟨fun pos pins s σ H ρ M Q I r h => pa_nil pos pins s σ H _ I ⟨[], M, .refl _ _, dats_nil.mpr rfl, r.mem, h⟩⟩
theorem a_cons (ha : PE3 X e te) (hr : PA3 X es t) (hs : starEach (e :: es) X.env = (false, eval e X.env) :: starEach es X.env := by rfl) : PA3 X (e :: es) (tCons3 te t) := ⟨fun pos pins s σ H ρ M Q I r h =>
  pa_cons ha.dn hr.dn hs pos pins s σ H _ I (dn_of r h fun v H' d M' f dv r' q => dnA_of r' q fun vs H2 ds M2 f2 dvs r2 q2 =>
    ⟨d :: ds, M2, f.trans f2, dats_cons.mpr ⟨v, vs, rfl, Dat.mono (f2.ext r'.mem) _ _ dv, dvs⟩, r2.mem, q2⟩)⟩
def tTup3 (t : TA3) : TE3 := fun ρ M Q => t ρ M fun xs M1 => xs.length ≤ sizeLine ∧ Q (.tup xs) M1
def tLst3 (t : TA3) : TE3 := fun ρ M Q => t ρ M fun xs M1 => xs.length ≤ sizeLine ∧ ∀ p, M1 p = none → Q (.ref p) (updM M1 p (.lst xs))
theorem q_tup {x1} (h : PA3 X es t) : PE3 X (.Tuple es x1 pos) (tTup3 t) := up (pe_tup h.dn) fun σ H ρ M Q r q => dnA_of r q fun vs H' ds M' f dv r' ⟨hl, q⟩ =>
  ⟨by rw [← dv.length]; exact hl, fun p hp => ⟨.tup ds, M', f.trans (Fr.new hp fun _ _ => rfl), dat_tup.mpr ⟨p, vs, rfl, upd_same, Dats.mono (Ext.new hp) _ _ dv⟩, r'.mem.new hp, q⟩⟩
theorem q_lst (h : PA3 X es t) : PE3 X (.List es pos) (tLst3 t) := up (pe_lst h.dn) fun σ H ρ M Q r q => dnA_of r q fun vs H' ds M' f dv r' ⟨hl, q⟩ =>
  ⟨by rw [← dv.length]; exact hl, fun p hp => ⟨.ref p, updM M' p (.lst ds), f.trans (Fr.new hp fun _ hb => updM_ne hb), dat_ref.mpr rfl, r'.mem.newL hp dv, q p (r'.mem.free hp)⟩⟩

/-! ### subscripts -/
/-- a tuple's, a list's, the script's item -/
def Seq4 (M : Mp) (e : D) (es : List D) : Prop := e = .tup es ∨ e = .frl es ∨ ∃ a, e = .ref a ∧ M a = some (.lst es)
def rIx3 : R3 := fun d e M Q => ∃ xs i z, Seq4 M d xs ∧ e = .int i ∧ atI xs i = some z ∧ Q z M
theorem ixN_of {α β : Type} {xs : List α} {ys : List β} (h : xs.length = ys.length) {i : Int} {z : α} (e : atI xs i = some z) : ∃ j, ixN ys.length i = some j ∧ xs[j]? = some z := by
  unfold atI at e
  rw [h] at e
  cases q : ixN ys.length i with
  | none => rw [q] at e; cases e
  | some j => rw [q] at e; exact ⟨j, rfl, e⟩
theorem atI_dats {K : PySem.W.Frag} {H : Hp} {ds : List D} {xs : List V} (h : Dats K H ds xs) {i : Int} {z : D} (e : atI ds i = some z) : ∃ v, atI xs i = some v ∧ Dat K H z v := by
  obtain ⟨j, h1, h2⟩ := ixN_of h.length e
  obtain ⟨v, h3, h4⟩ := h.get h2
  refine ⟨v, ?_, h4⟩
  unfold atI
  rw [h1]
  exact h3
theorem q_ix (ha : PE3 X a ta) (hb : PE3 X b tb) (hs : PlainIx b := by intro _ _; rfl) : PE3 X (.Subscript a b pos) (tBin rIx3 ta tb) := up (pe_ix (ix_list.or ix_tup) ha.dn hb.dn hs) fun σ H ρ M Q r q =>
  dn_of r q fun v H' d M' f dv r' q => dn_of r' q fun u H2 e M2 f2 du r2 ⟨xs, i, z, hq, ei, at', q⟩ => by
    subst ei
    obtain rfl := dat_int.mp du
    have dv2 := Dat.mono (f2.ext r'.mem) _ _ dv
    have fin : ∀ w, Dat X.K H2 z w → Post X.K M H Q w H2 := fun w dw => ⟨z, M2, f.trans f2, dw, r2.mem, q⟩
    rcases hq with rfl | rfl | ⟨l, rfl, hl⟩
    · obtain ⟨p, ys, rfl, hp, hy⟩ := dat_tup.mp dv2
      obtain ⟨w, h1, h2⟩ := atI_dats hy at'
      exact .inr ⟨p, ys, i, w, rfl, rfl, SqT.of hp, h1, fin w h2⟩
    · obtain ⟨p, ys, rfl, hp, hy⟩ := dat_frl.mp dv2
      obtain ⟨w, h1, h2⟩ := atI_dats hy at'
      exact .inl ⟨p, ys, i, w, rfl, rfl, hp.sq, h1, fin w h2⟩
    · obtain rfl := dat_ref.mp dv2
      obtain ⟨ys, hp, hy⟩ := r2.mem.lst hl
      obtain ⟨w, h1, h2⟩ := atI_dats hy at'
      exact .inl ⟨l, ys, i, w, rfl, rfl, SqL.of hp, h1, fin w h2⟩

/-! ### built-in calls -/
structure Call3 (X : Cx) (f : Value) (t : List D → Mp → DK → Prop) : Prop where
  run : ∀ (pins : List (Addr × Obj)) (s : Shared) (σ : St) (H : Hp) (M : Mp) (xs : List V) (ds : List D) (us : List Value) (Q : DK), Inv X pins σ H s → RepM X.K H M → Vals xs us → Dats X.K H ds xs → t ds M Q →
    wpAny (model X.prog X.w) X.A (call f us) (EP X pins σ (Post X.K M H Q)) X.xe s
theorem call3 {f : Value} {r : List V → Hp → VK → Prop} {t : List D → Mp → DK → Prop} (h : CallR X f r) (g : ∀ H M xs ds Q, RepM X.K H M → Dats X.K H ds xs → t ds M Q → r xs H (Post X.K M H Q)) : Call3 X f t :=
  ⟨fun pins s σ H M xs ds us Q I rm rs dx q => h pins s σ H xs us _ I rs (g H M xs ds Q rm dx q)⟩
def tCB3 (r : List D → Mp → DK → Prop) (t : TA3) : TE3 := fun ρ M Q => t ρ M fun ds M1 => r ds M1 Q
variable {x : Str} {id T : String} {r : List D → Mp → DK → Prop}
theorem q_blt (hc : Call3 X (.builtin id) r) (hg : Gl X x) (hm : X.mg x = none) (hv : bootBuiltins x = some (.builtin id)) (ha : PA3 X (e :: es) t) (hn : x ≠ "__name__" := by decide) (hdb : (x == ("__debug__" : Str)) = false := by decide)
    (he : starEach (e :: es) X.env = (false, eval e X.env) :: starEach es X.env := by rfl) (hpl : (backTo pos (starEach es X.env)).any (·.1) = false := by rfl) : PE3 X (.Call (.Name x p) (e :: es) [] pos) (tCB3 r t) := by
  constructor
  intro pins s σ H ρ M Q I r h
  refine wpAny_Call_Name_kw (ld_blt I hg hm hv ?_ hn hdb)
  refine PyProof.Rows.callWith_builtin1 (thn (ha.run pos pins s σ H ρ M _ I r h) fun us s1 ⟨vs, H1, I1, r1, ds, M1, f1, d1, rm1, q1⟩ => ?_) he hpl
  exact thn (hc.run pins s1 σ H1 M1 vs ds us Q I1 rm1 r1 d1 q1) fun _ _ ⟨z, H3, I3, r3, p⟩ => ⟨z, H3, I3, r3, p.back f1⟩
theorem q_typ (hc : Call3 X (.type T) r) (hg : Gl X x) (hm : X.mg x = none) (hv : bootBuiltins x = some (.type T)) (ha : PA3 X (e :: es) t) (hn : x ≠ "__name__" := by decide) (hdb : (x == ("__debug__" : Str)) = false := by decide)
    (he : starEach (e :: es) X.env = (false, eval e X.env) :: starEach es X.env := by rfl) (hpl : (backTo pos (starEach es X.env)).any (·.1) = false := by rfl) : PE3 X (.Call (.Name x p) (e :: es) [] pos) (tCB3 r t) := by
  constructor
  intro pins s σ H ρ M Q I r h
  refine wpAny_Call_Name_kw (ld_blt I hg hm hv ?_ hn hdb)
  refine PyProof.Rows.callWith_type1 (thn (ha.run pos pins s σ H ρ M _ I r h) fun us s1 ⟨vs, H1, I1, r1, ds, M1, f1, d1, rm1, q1⟩ => ?_) he hpl
  exact thn (hc.run pins s1 σ H1 M1 vs ds us Q I1 rm1 r1 d1 q1) fun _ _ ⟨z, H3, I3, r3, p⟩ => ⟨z, H3, I3, r3, p.back f1⟩
theorem dats1 {K : PySem.W.Frag} {H : Hp} {d : D} {xs : List V} (h : Dats K H [d] xs) : ∃ v, xs = [v] ∧ Dat K H d v := by
  obtain ⟨v, vs, rfl, h1, h2⟩ := dats_cons.mp h
  rw [dats_nil.mp h2]
  exact ⟨v, rfl, h1⟩
theorem dats2 {K : PySem.W.Frag} {H : Hp} {d e : D} {xs : List V} (h : Dats K H [d, e] xs) : ∃ v u, xs = [v, u] ∧ Dat K H d v ∧ Dat K H e u := by
  obtain ⟨v, vs, rfl, h1, h2⟩ := dats_cons.mp h
  obtain ⟨u, rfl, h3⟩ := dats1 h2
  exact ⟨v, u, rfl, h1, h3⟩
def rAbs : List D → Mp → DK → Prop := fun ds M Q => ∃ i : Int, ds = [.int i] ∧ Q (.int (i.natAbs : Int)) M
theorem c_abs : Call3 X (.builtin "abs") rAbs := call3 call_abs fun H M xs ds Q rm dx ⟨i, ei, q⟩ => by
  subst ei
  obtain ⟨v, rfl, hv⟩ := dats1 dx
  obtain rfl := dat_int.mp hv
  refine ⟨i, rfl, post_self rm (dat_int.mpr rfl) ?_⟩
  have e : (if i < 0 then -i else i) = (i.natAbs : Int) := by split <;> omega
  rw [e]
  exact q
def rLen : List D → Mp → DK → Prop := fun ds M Q => ∃ d xs, ds = [d] ∧ Seq4 M d xs ∧ Q (.int xs.length) M
theorem c_len : Call3 X (.builtin "len") rLen := call3 call_len_seq fun H M xs ds Q rm dx ⟨d, ys, ei, hs, q⟩ => by
  subst ei
  obtain ⟨v, rfl, hv⟩ := dats1 dx
  rcases hs with rfl | rfl | ⟨l, rfl, hl⟩
  · obtain ⟨p, zs, rfl, hp, hz⟩ := dat_tup.mp hv
    exact ⟨p, zs, rfl, .inr (SqT.of hp), post_self rm (dat_int.mpr (by rw [hz.length])) q⟩
  · obtain ⟨p, zs, rfl, hp, hz⟩ := dat_frl.mp hv
    exact ⟨p, zs, rfl, .inl hp.sq, post_self rm (dat_int.mpr (by rw [hz.length])) q⟩
  · obtain rfl := dat_ref.mp hv
    obtain ⟨zs, hp, hz⟩ := rm.lst hl
    exact ⟨l, zs, rfl, .inl (SqL.of hp), post_self rm (dat_int.mpr (by rw [hz.length])) q⟩
def rToInt : List D → Mp → DK → Prop := fun ds M Q => ∃ k, ds = [.bl k] ∧ Q (.int (if k then 1 else 0)) M
theorem c_int : Call3 X (.type "int") rToInt := call3 call_int1 fun H M xs ds Q rm dx ⟨k, ei, q⟩ => by
  subst ei
  obtain ⟨v, rfl, hv⟩ := dats1 dx
  obtain rfl := dat_bl.mp hv
  exact .inr ⟨k, rfl, post_self rm (dat_int.mpr rfl) q⟩
def rMax2 : List D → Mp → DK → Prop := fun ds M Q => ∃ i j : Int, ds = [.int i, .int j] ∧ Q (.int (max i j)) M
def rMin2 : List D → Mp → DK → Prop := fun ds M Q => ∃ i j : Int, ds = [.int i, .int j] ∧ Q (.int (min i j)) M
theorem c_max2 (hc : X.calm = true) : Call3 X (.builtin "max") rMax2 := call3 (call_max2 hc) fun H M xs ds Q rm dx ⟨i, j, ei, q⟩ => by
  subst ei
  obtain ⟨v, u, rfl, hv, hu⟩ := dats2 dx
  obtain rfl := dat_int.mp hv
  obtain rfl := dat_int.mp hu
  refine ⟨i, j, rfl, post_self rm (dat_int.mpr rfl) ?_⟩
  have e : (if j > i then j else i) = max i j := by split <;> omega
  rw [e]
  exact q
theorem c_min2 (hc : X.calm = true) : Call3 X (.builtin "min") rMin2 := call3 (call_min2 hc) fun H M xs ds Q rm dx ⟨i, j, ei, q⟩ => by
  subst ei
  obtain ⟨v, u, rfl, hv, hu⟩ := dats2 dx
  obtain rfl := dat_int.mp hv
  obtain rfl := dat_int.mp hu
  refine ⟨i, j, rfl, post_self rm (dat_int.mpr rfl) ?_⟩
  have e : (if j < i then j else i) = min i j := by split <;> omega
  rw [e]
  exact q
/-- the type of a value -/
inductive Ty3 (M : Mp) : D → String → Prop where
  | non : Ty3 M .non "NoneType"
  | bl (b : Bool) : Ty3 M (.bl b) "bool"
  | int (i : Int) : Ty3 M (.int i) "int"
  | str (x : Str) : Ty3 M (.str x) "str"
  | tup (ds : List D) : Ty3 M (.tup ds) "tuple"
  | lst {a : Addr} {ds : List D} (h : M a = some (.lst ds)) : Ty3 M (.ref a) "list"
  | dct : Ty3 M (.thg "dict") "dict"
def rIsT (K : PySem.W.Frag) : List D → Mp → DK → Prop := fun ds M Q => ∃ d n m b, ds = [d, .ty m] ∧ Ty3 M d n ∧ PySem.W.kitOne K (.type n) (.type m) = some b ∧ Q (.bl b) M
theorem c_isT : Call3 X (.builtin "isinstance") (rIsT X.K) := by
  constructor
  intro pins s σ H M xs ds us Q I rm rs dx ⟨d, n, m, b, ei, ty, hk, q⟩
  subst ei
  obtain ⟨v, u, rfl, hv, hu⟩ := dats2 dx
  obtain rfl := dat_ty.mp hu
  obtain ⟨v', u', rfl, r1, r2⟩ := vals2 rs
  obtain rfl : u' = Value.type m := r2
  have fin : ∀ tk, EP X pins σ (Post X.K M H Q) (.bool b) { s with toks := tk } := fun tk => ⟨.bl b, H, I.tok tk, rfl, post_self rm (dat_bl.mpr rfl) q⟩
  cases ty with
  | non => obtain rfl := dat_non.mp hv; exact isinst_ok I r1 .non hk fin
  | bl k => obtain rfl := dat_bl.mp hv; exact isinst_ok I r1 (.bl k) hk fin
  | int i => obtain rfl := dat_int.mp hv; exact isinst_ok I r1 (.int i) hk fin
  | str z => obtain rfl := dat_str.mp hv; exact isinst_ok I r1 (.str z) hk fin
  | tup zs =>
    obtain ⟨p, ys, rfl, hp, hy⟩ := dat_tup.mp hv
    exact isinst_ok I r1 (.tup hp) hk fin
  | lst hM =>
    obtain rfl := dat_ref.mp hv
    obtain ⟨ys, hp, hy⟩ := rm.lst hM
    exact isinst_ok I r1 (.lst hp) hk fin
  | dct =>
    obtain ⟨p, o, u, rfl, hp, hc⟩ := dat_thg.mp hv
    cases (show v' = Value.ref p from r1)
    obtain ⟨h1, _⟩ := (show ObjOk X.prog X.w H s.heap p (.frz o u) from I.hok p _ hp)
    exact PySem.W.kia_one PySem.W.kitx_dict I.kIn ⟨o, h1, hc⟩ hk (fun z => nomatch z) fin

/-! ### defs: what they promise -/
/-- a def that changes nothing: its values in, its value out -/
abbrev SpP := List D → (D → Prop) → Prop
def spP (K : PySem.W.Frag) (S : SpP) : Sp := fun vs H Q _ => ∃ ds Q0, Dats K H ds vs ∧ S ds Q0 ∧ ∀ d v H', Q0 d → Dat K H' d v → (∀ b o, H b = some o → H' b = some o) → Q v H'
/-- a def over lists -/
abbrev Sp3 := List D → Mp → DK → Prop
def sp3 (K : PySem.W.Frag) (S : Sp3) : Sp := fun vs H Q _ => ∃ ds M Q0, Dats K H ds vs ∧ RepM K H M ∧ S ds M Q0 ∧ ∀ d M' v H', Q0 d M' → Dat K H' d v → RepM K H' M' → Fr M H M' H' → Q v H'
theorem dats_app_nil {K : PySem.W.Frag} {H : Hp} {ds : List D} {vs : List V} (h : Dats K H ds vs) : Dats K H ds (vs ++ []) := by simpa using h
theorem Ext.keep {H H' : Hp} (h : ∀ b o, H b = some o → H' b = some o) : Ext H H' := ⟨fun b _ e => h b _ e, fun b _ _ e => h b _ e⟩
theorem RepM.keep {K : PySem.W.Frag} {H H' : Hp} {M : Mp} (r : RepM K H M) (h : ∀ b o, H b = some o → H' b = some o) : RepM K H' M := fun a o e => by
  cases o with
  | lst ds =>
    obtain ⟨xs, e1, e2⟩ := r.lst e
    exact ⟨xs, h _ _ e1, Dats.mono (Ext.keep h) _ _ e2⟩
variable {k : Nat} {f : Addr} {fd : FuncData} {ps : List Str}
def tCallP (S : SpP) (t : TA3) : TE3 := fun ρ M Q => t ρ M fun ds M1 => S ds fun d => Q d M1
def tCall3 (S : Sp3) (t : TA3) : TE3 := fun ρ M Q => t ρ M fun ds M1 => S ds M1 Q
theorem q_callP {S : SpP} (F : FnOk X.prog X.w X.K X.mg X.base CX0 k f fd ps (spP X.K S)) (hr : Room k X.A) (hg : Gl X x) (hm : X.mg x = some (.ref f)) (hk : PySem.W.keepIn X.K (.ref f) = true) (hb : Binds X.K fd ps [])
    (ha : PA3 X (e :: es) t) (hdb : (x == ("__debug__" : Str)) = false := by decide) (he : starEach (e :: es) X.env = (false, eval e X.env) :: starEach es X.env := by rfl) (hpl : (backTo pos (starEach es X.env)).any (·.1) = false := by rfl) :
    PE3 X (.Call (.Name x p) (e :: es) [] pos) (tCallP S t) :=
  up (pe_call (dvs := []) (E := E0) F hr hg hm hk hb .nil pass0 ha.dn hdb he hpl) fun σ H ρ M Q r q => dnA_of r q fun vs H' ds M' f dv r' q =>
    ⟨ds, _, dats_app_nil dv, q, fun d v H2 q2 d2 kp => ⟨d, M', f.trans fun b o n e => ⟨kp b o e, n⟩, d2, r'.mem.keep kp, q2⟩⟩
theorem q_call {S : Sp3} (F : FnOk X.prog X.w X.K X.mg X.base CX0 k f fd ps (sp3 X.K S)) (hr : Room k X.A) (hg : Gl X x) (hm : X.mg x = some (.ref f)) (hk : PySem.W.keepIn X.K (.ref f) = true) (hb : Binds X.K fd ps [])
    (ha : PA3 X (e :: es) t) (hdb : (x == ("__debug__" : Str)) = false := by decide) (he : starEach (e :: es) X.env = (false, eval e X.env) :: starEach es X.env := by rfl) (hpl : (backTo pos (starEach es X.env)).any (·.1) = false := by rfl) :
    PE3 X (.Call (.Name x p) (e :: es) [] pos) (tCall3 S t) :=
  up (pe_call (dvs := []) (E := E0) F hr hg hm hk hb .nil pass0 ha.dn hdb he hpl) fun σ H ρ M Q r q => dnA_of r q fun vs H' ds M' f dv r' q =>
    ⟨ds, M', _, dats_app_nil dv, r'.mem, q, fun d M2 v H2 q2 d2 rm2 f2 => ⟨d, M2, f.trans f2, d2, rm2, q2⟩⟩
end

/-! ### statements -/
section
variable {X : Cx} {st : Stmt} {rest : List Stmt} {t u : TS3} {e : Expr} {te : TE3} {pos : Pos}
def tNext3 : TS3 := fun D ρ M => D.nx ρ M
def tSeq3 (t u : TS3) : TS3 := fun D ρ M => t { D with nx := u D } ρ M
theorem ends_back {K : PySem.W.Frag} {M M1 : Mp} {H H1 : Hp} {D : En3} {pins : List (Addr × Obj)} {f : Flow} {s : Shared} (fr : Fr M H M1 H1) (h : SP X pins (ends K M1 H1 D) f s) : SP X pins (ends K M H D) f s := by
  cases f with
  | next => obtain ⟨σ', H', I, p⟩ := h; exact ⟨σ', H', I, PostN.back fr p⟩
  | brk => obtain ⟨σ', H', I, p⟩ := h; exact ⟨σ', H', I, PostN.back fr p⟩
  | cont => obtain ⟨σ', H', I, p⟩ := h; exact ⟨σ', H', I, PostN.back fr p⟩
  | ret w => obtain ⟨v, σ', H', I, rv, p⟩ := h; exact ⟨v, σ', H', I, rv, Post.back fr p⟩
def dnS1 (K : PySem.W.Frag) (t : TS3) : TS := dnS K t
theorem PS3.dn {st : Stmt} {t : TS3} (h : PS3 X st t) : PS X st (dnS X.K t) := fun pins s σ H D' I ⟨ρ, M, D, r, q, k1, k2, k3, k4⟩ =>
  thn (h.run pins s σ H ρ M D I r q) fun f s' z => by
    cases f with
    | next => obtain ⟨σ', H', I', p⟩ := z; exact ⟨σ', H', I', k1 _ _ p⟩
    | brk => obtain ⟨σ', H', I', p⟩ := z; exact ⟨σ', H', I', k3 _ _ p⟩
    | cont => obtain ⟨σ', H', I', p⟩ := z; exact ⟨σ', H', I', k4 _ _ p⟩
    | ret u => obtain ⟨v, σ', H', I', rv, p⟩ := z; exact ⟨v, σ', H', I', rv, k2 _ _ p⟩
theorem upSs {sts : List Stmt} {te : TS} {t : TS3} (h : PSs X sts te) (g : ∀ σ H ρ M D, Rep X.K H σ ρ M → t D ρ M → te (ends X.K M H D) σ H) : PSs3 X sts t :=
  ⟨fun pins s σ H ρ M D I r q => h pins s σ H _ I (g σ H ρ M D r q)⟩
/-- a block's reading goes on with what stands behind -/
theorem dnS_self {K : PySem.W.Frag} {M0 : Mp} {H0 : Hp} {σ : St} {H : Hp} {ρ : En} {M : Mp} {D : En3} {t : TS3} (f : Fr M0 H0 M H) (r : Rep K H σ ρ M) (q : t D ρ M) : dnS K t (ends K M0 H0 D) σ H :=
  ⟨ρ, M, D, r, q, fun _ _ p => p.back f, fun _ _ p => p.back f, fun _ _ p => p.back f, fun _ _ p => p.back f⟩
theorem b_nil : PSs3 X [] tNext3 := upSs pss_nil fun σ H ρ M D r q => ⟨ρ, M, .refl _ _, r, q⟩
theorem b_cons (h1 : PS3 X st t) (h2 : PSs3 X rest u) : PSs3 X (st :: rest) (tSeq3 t u) := upSs (pss_cons h1.dn h2.dn) fun σ H ρ M D r q =>
  ⟨ρ, M, _, r, q, fun σ' H' ⟨ρ', M', f, r', q'⟩ => dnS_self f r' q', fun _ _ p => p, fun _ _ p => p, fun _ _ p => p⟩
theorem b_one (h1 : PS3 X st t) : PSs3 X [st] t := upSs (pss_one h1.dn) fun σ H ρ M D r q => dnS_self (.refl _ _) r q
theorem s_pass : PS3 X (.Pass pos) tNext3 := upS ps_pass fun σ H ρ M D r q => ⟨ρ, M, .refl _ _, r, q⟩
def tDrop3 (te : TE3) : TS3 := fun D ρ M => te ρ M fun _ M1 => D.nx ρ M1
theorem s_expr (he : PE3 X e te) (hs : swapsWith e none pos.line X.env = pure false := by rfl) : PS3 X (.Expr e pos) (tDrop3 te) := upS (ps_expr he.dn hs) fun σ H ρ M D r q => dn_of r q fun v H' d M' f dv r' q => ⟨ρ, M', f, r', q⟩
def tRet3 (te : TE3) : TS3 := fun D ρ M => te ρ M D.rt
theorem s_ret (he : PE3 X e te) : PS3 X (.Return (some e) pos) (tRet3 te) := upS (ps_ret he.dn) fun σ H ρ M D r q => ⟨ρ, M, _, r, q, fun _ _ p => p⟩
def tIfS3 (c : TT3) (t u : TS3) : TS3 := fun D ρ M => c ρ M fun b M1 => if b = true then t D ρ M1 else u D ρ M1
theorem s_if {c : Expr} {a b : List Stmt} {tc : TT3} (hc : PT3 X c tc) (ha : PSs3 X a t) (hb : PSs3 X b u) : PS3 X (.If c a b pos) (tIfS3 tc t u) := upS (ps_if hc.dn ha.dn hb.dn) fun σ H ρ M D r q => dnT_of r q fun k H' M' f r' q => by
  cases k with
  | true => exact dnS_self f r' q
  | false => exact dnS_self f r' q
def tNever3 : TS3 := fun _ _ _ => False
theorem s_never : PS3 X st tNever3 := ⟨fun _ _ _ _ _ _ _ _ _ h => h.elim⟩
/-- name = value -/
def tSet3 (i : Nat) (te : TE3) : TS3 := fun D ρ M => te ρ M fun x M1 => D.nx (ρ.set i (some x)) M1
theorem s_set {i : Nat} {x : Str} {pos' : Pos} (hN : X.N.Nodup) (hi : X.N[i]? = some x) (hx : Loc X.env.scope x) (he : PE3 X e te) (hs : swapsWith e (some (.Name x pos')) pos.line X.env = pure false := by rfl) (hf : X.fn x = true ∨ X.env.scope.names.lookup x = some .local := by first | exact .inl rfl | exact .inr rfl | assumption) :
    PS3 X (.Assign [.Name x pos'] e pos) (tSet3 i te) := upS (ps_set hN hi hx he.dn hs hf) fun σ H ρ M D r q => dn_of r q fun v H' d M' f dv r' q => ⟨ρ.set i (some d), M', f, r'.set dv, q⟩

/-! ### targets -/
abbrev TG3 := D → En → Mp → (En → Mp → Prop) → Prop
abbrev TGs3 := List D → En → Mp → (En → Mp → Prop) → Prop
structure PG3 (X : Cx) (target : Expr) (t : TG3) : Prop where
  run : ∀ (pins : List (Addr × Obj)) (s : Shared) (σ : St) (H : Hp) (ρ : En) (M : Mp) (v : V) (d : D) (u : Value) (Q : En → Mp → Prop), Inv X pins σ H s → Rep X.K H σ ρ M → RelV v u → Dat X.K H d v → t d ρ M Q →
    wpAny (model X.prog X.w) X.A (assign target X.env u) (fun _ s' => ∃ σ' H', Inv X pins σ' H' s' ∧ PostN X.K M H Q σ' H') X.xe s
structure PGs3 (X : Cx) (ts : List Expr) (t : TGs3) : Prop where
  run : ∀ (pins : List (Addr × Obj)) (s : Shared) (σ : St) (H : Hp) (ρ : En) (M : Mp) (vs : List V) (ds : List D) (us : List Value) (Q : En → Mp → Prop), Inv X pins σ H s → Rep X.K H σ ρ M → Vals vs us → Dats X.K H ds vs → t ds ρ M Q →
    wpAny (model X.prog X.w) X.A (assignInOrder ((assignEach ts X.env).map (·.2)) us) (fun _ s' => ∃ σ' H', Inv X pins σ' H' s' ∧ PostN X.K M H Q σ' H') X.xe s
def gName3 (i : Nat) : TG3 := fun d ρ M Q => Q (ρ.set i (some d)) M
theorem g_name {i : Nat} {x : Str} (hN : X.N.Nodup) (hi : X.N[i]? = some x) (hx : Loc X.env.scope x) (hf : X.fn x = true ∨ X.env.scope.names.lookup x = some .local := by first | exact .inl rfl | exact .inr rfl | assumption) : PG3 X (.Name x pos) (gName3 i) :=
  ⟨fun pins s σ H ρ M v d u Q I r rv dv q => pg_name hN hi hx hf pins s σ H v u _ I rv ⟨ρ.set i (some d), M, .refl _ _, r.set dv, q⟩⟩
def gNil3 : TGs3 := fun ds ρ M Q => ds = [] ∧ Q ρ M
def gCons3 (t : TG3) (u : TGs3) : TGs3 := fun ds ρ M Q => ∃ d r, ds = d :: r ∧ t d ρ M fun ρ' M' => u r ρ' M' Q
theorem gs_nil : PGs3 X [] gNil3 := by
  constructor
  intro pins s σ H ρ M vs ds us Q I r rv dv ⟨e1, q⟩
  subst e1
  rw [dats_nil.mp dv] at rv
  cases rv
  exact assignInOrder_nil ⟨σ, H, I, ρ, M, .refl _ _, r, q⟩
theorem gs_cons {e : Expr} {es : List Expr} {t : TG3} {u : TGs3} (h1 : PG3 X e t) (h2 : PGs3 X es u)
    (hs : (assignEach (e :: es) X.env).map (·.2) = assign e X.env :: (assignEach es X.env).map (·.2) := by rfl) : PGs3 X (e :: es) (gCons3 t u) := by
  constructor
  intro pins s σ H ρ M vs ds us Q I r rv dv ⟨d, dr, e1, q⟩
  subst e1
  obtain ⟨v, vr, rfl, d1, d2⟩ := dats_cons.mp dv
  cases rv with
  | cons rv rr =>
    rw [hs]
    refine assignInOrder_cons (thn (h1.run pins s σ H ρ M v d _ _ I r rv d1 q) fun _ s1 ⟨σ1, H1, I1, ρ1, M1, f1, r1, q1⟩ => ?_)
    exact thn (h2.run pins s1 σ1 H1 ρ1 M1 vr dr _ Q I1 r1 rr (Dats.mono (f1.ext r.mem) _ _ d2) q1) fun _ s2 ⟨σ2, H2, I2, p⟩ => ⟨σ2, H2, I2, p.back f1⟩
/-- (a, b, ..) = a tuple or a list of that length -/
def gSeq3 (n : Nat) (t : TGs3) : TG3 := fun d ρ M Q => ∃ xs, Seq3 M d xs ∧ xs.length = n ∧ t xs ρ M Q
theorem draw_list {prog : Program} {w : World} {A : Around} {E : Value → Shared → Prop} {it l : Addr} {items : Array Value} : ∀ (n i : Nat) (s : Shared) (Q : List Value → Shared → Prop), s.heap.IsListIter it l i → it ≠ l → s.heap.IsList l items → i + n ≤ items.size →
    (∀ h', h'.IsListIter it l (i + n) → Heap.SameBut it s.heap h' → Q ((items.toList.drop i).take n) { s with heap := h' }) → wpAny (model prog w) A (draw (.ref it) n) Q E s := by
  intro n
  induction n with
  | zero =>
    intro i s Q hit _ hl hi hQ
    have := hQ s.heap hit (.refl ..)
    rw [List.take_zero] at this
    exact wpAny_pure this
  | succ n ih =>
    intro i s Q hit hne hl hi hQ
    have hlt : i < items.size := by omega
    show wpAny _ _ (pyNext (.ref it) >>= _) Q E s
    refine wpAny_bind (wpAny_pyNext_list_item hit hl (x := items[i]) (by simp [hlt]) fun h₁ hit₁ hs₁ => ?_)
    refine wpAny_bind (wpAny_holding (ih (i + 1) _ _ hit₁ hne (hl.at fun o e => hs₁.extBut _ o (Ne.symm hne) e) (by omega) fun h₂ hit₂ hs₂ => wpAny_pure ?_))
    have hd : items.toList.drop i = items[i] :: items.toList.drop (i + 1) := by simp [List.drop_eq_getElem_cons, hlt]
    have := hQ h₂ (by rw [show i + (n + 1) = i + 1 + n by omega]; exact hit₂) (hs₁.trans hs₂)
    rw [hd, List.take_succ_cons] at this
    exact this
theorem unpackItems_list {prog : Program} {w : World} {A : Around} {E : Value → Shared → Prop} {s : Shared} {t : Addr} {items : Array Value} {Q : List Value → Shared → Prop} (hh : A.handled = none) (ht : s.heap.IsList t items)
    (hQ : ∀ h', Heap.ExtBut s.heap.objs.size s.heap h' → Q items.toList { s with heap := h' }) : wpAny (model prog w) A (unpackItems (.ref t) items.size none) Q E s := by
  have hlt : t ≠ s.heap.objs.size := by obtain ⟨o, ho, _⟩ := ht; exact Nat.ne_of_lt (Heap.lt_size ho)
  unfold unpackItems
  refine wpAny_bind ?_
  · unfold notIterableAtAll
    refine wpAny_bind (wpAny_specialOf ht.typeIs slot_list_iter.lookup ?_)
    refine wpAny_pure ?_
    simp only [Bool.false_eq_true, if_false]
    refine wpAny_bind (wpAny_holding (wpAny_pyIter_list ht ?_))
    have ht0 : (s.heap.push { cls := .type "list_iterator", data := .fields #[.ref t, rawInt 0] }).IsList t items := by
      obtain ⟨o, ho, c, n, d⟩ := id ht
      exact ⟨o, Heap.get?_push_of_some _ ho, c, n, d⟩
    refine wpAny_bind (wpAny_holding (draw_list items.size 0 _ _ ⟨_, Heap.get?_push_size _ rfl, rfl, rfl⟩ (Ne.symm hlt) ht0 (by omega) fun h₁ hit₁ hs₁ => ?_))
    have hall : List.take items.size (List.drop 0 items.toList) = items.toList := by
      rw [List.drop_zero]; exact List.take_of_length_le (by simp)
    rw [hall]
    rw [if_neg (by simp)]
    have ht₁ : h₁.IsList t items := ht0.at fun o e => hs₁.extBut _ o hlt e
    refine wpAny_bind (wpAny_holding (wpAny_pyNext_list_end hh hit₁ ht₁ (by simp) fun h₂ he₂ => ?_))
    simp only [Option.isSome_none, Bool.false_eq_true, if_false]
    refine wpAny_pure (hQ h₂ fun b o hb e => he₂ b o hb (hs₁.extBut b o hb (Heap.get?_push_of_some _ e)))
theorem g_seq {es : List Expr} {k : Nat} {t : TGs3} {n : Nat} (hc : X.calm = true) (h : PGs3 X es t)
    (hn : (assignEach es X.env).length = n := by rfl) (hst : (assignEach es X.env).findIdx? (·.1) = none := by rfl) : PG3 X (.Tuple es k pos) (gSeq3 n t) := by
  constructor
  intro pins s σ H ρ M v d u Q I r rv dv ⟨xs, hq, hl, q⟩
  rcases hq with rfl | ⟨a, rfl, hM⟩
  · obtain ⟨a, ys, rfl, ha, hy⟩ := dat_tup.mp dv
    obtain rfl : u = Value.ref a := rv
    obtain ⟨its, rvs, ht, hz⟩ := I.tuple (SqT.of ha)
    refine assign_Tuple_tuple (I.ok.hd hc) ht (by simp [hn, ← hl, hy.length, rvs.length]) hst fun h' hx => ?_
    have I1 : Inv X pins σ H { s with heap := h' } := I.kept (t' := s.toks) fun b o e => hx b o (Nat.ne_of_lt (Heap.lt_size e)) e
    exact h.run pins _ σ H ρ M ys xs _ Q I1 r (by simpa using rvs) hy q
  · obtain rfl := dat_ref.mp dv
    obtain rfl : u = Value.ref a := rv
    obtain ⟨ys, ha, hy⟩ := r.mem.lst hM
    obtain ⟨its, rvs, ht, hz⟩ := I.list (SqL.of ha)
    rw [assign_Tuple]
    refine wpAny_bind (wpAny_standAt ?_)
    unfold unpack
    have hsz : (assignEach es X.env).length = its.toArray.size := by simp [hn, ← hl, hy.length, rvs.length]
    rw [hsz, hst]
    refine wpAny_bind (wpAny_holding (unpackItems_list (I.ok.hd hc) ht.isList fun h' hx => ?_))
    have I1 : Inv X pins σ H { s with heap := h' } := I.kept (t' := s.toks) fun b o e => hx b o (Nat.ne_of_lt (Heap.lt_size e)) e
    exact h.run pins _ σ H ρ M ys xs _ Q I1 r (by simpa using rvs) hy q
/-- target = value -/
def tAsg3 (te : TE3) (g : TG3) : TS3 := fun D ρ M => te ρ M fun x M1 => g x ρ M1 D.nx
theorem s_asg {tg e : Expr} {g : TG3} (he : PE3 X e te) (hg : PG3 X tg g) (hs : swapsWithSole [tg] e pos.line X.env = pure false := by rfl) (hw : swappedStores [tg] e X.env = pure none := by rfl)
    (h1 : (assignEach [tg] X.env).map (·.2) = [assign tg X.env] := by rfl) : PS3 X (.Assign [tg] e pos) (tAsg3 te g) := by
  constructor
  intro pins s σ H ρ M D I r h
  refine wpAny_Assign_stores (thn (he.run pins s σ H ρ M _ I r h) fun v s1 ⟨x, H1, I1, r1, d, M1, f1, d1, rm1, q1⟩ => ?_) hs hw
  rw [h1]
  exact thn (hg.run pins s1 σ H1 ρ M1 x d v _ I1 (r.go f1 rm1) r1 d1 q1) fun _ s2 ⟨σ2, H2, I2, p⟩ => ⟨σ2, H2, I2, p.back f1⟩
/-- x, y = a, b -/
def tPar3 (i j : Nat) (ta : TA3) : TS3 := fun D ρ M => ta ρ M fun vs M1 => ∃ v w, vs = [v, w] ∧ D.nx ((ρ.set i (some v)).set j (some w)) M1
theorem s_par {i j : Nat} {x y : Str} {a b : Expr} {ta : TA3} {px py pt : Pos} {kt k2 pt2} (hc : X.calm = true) (hN : X.N.Nodup) (hi : X.N[i]? = some x) (hj : X.N[j]? = some y) (hij : i ≠ j)
    (hx : X.env.scope.names.lookup x = some .local) (hy : X.env.scope.names.lookup y = some .local) (ha : PA3 X [a, b] ta)
    (hw : swappedStores [.Tuple [.Name x px, .Name y py] kt pt] (.Tuple [a, b] k2 pt2) X.env = pure (some [x, y]) := by rfl)
    (hs : swapsWithSole [.Tuple [.Name x px, .Name y py] kt pt] (.Tuple [a, b] k2 pt2) pos.line X.env = pure false := by rfl) :
    PS3 X (.Assign [.Tuple [.Name x px, .Name y py] kt pt] (.Tuple [a, b] k2 pt2) pos) (tPar3 i j ta) := upS (ps_par hc hN hi hj hij hx hy ha.dn hw hs) fun σ H ρ M D r q => dnA_of r q fun vs H' ds M' f dv r' ⟨d1, d2, e1, q⟩ => by
  subst e1
  obtain ⟨v, w, rfl, h1, h2⟩ := dats2 dv
  exact ⟨v, w, rfl, _, M', f, (r'.set h1).set h2, q⟩

/-! ### append -/
variable {o : Expr} {to : TE3} {es : List Expr} {t3 : TA3} {apos : Pos}
def rApp : R3 := fun d e M Q => ∃ l xs, d = .ref l ∧ M l = some (.lst xs) ∧ xs.length < sizeLine ∧ Q .non (updM M l (.lst (xs ++ [e])))

/-! ### while -/
/-- a word that no step of a reading opens by itself -/
@[irreducible] def Hold (p : Prop) : Prop := p
theorem Hold.mk {p : Prop} (h : p) : Hold p := by unfold Hold; exact h
theorem Hold.out {p : Prop} (h : Hold p) : p := by unfold Hold at h; exact h
def tWhile3 (c : TT3) (tb : TS3) : TS3 := fun D ρ M => ∃ W : Nat → En → Mp → Prop, (∃ m, W m ρ M) ∧ ∀ m ρ M, W m ρ M →
  c ρ M fun b M1 => if b = true then tb { D with nx := fun ρ' M' => Hold (∃ m', m' < m ∧ W m' ρ' M'), ct := fun ρ' M' => Hold (∃ m', m' < m ∧ W m' ρ' M'), bk := D.nx } ρ M1 else D.nx ρ M1
theorem s_while {c : Expr} {body : List Stmt} {tc : TT3} {tb : TS3} (hp : PassesOwn (model X.prog X.w) X.A X.env X.xe) (hc : PT3 X c tc) (hb : PSs3 X body tb) : PS3 X (.While c body [] pos) (tWhile3 tc tb) := upS (ps_while hp hc.dn hb.dn) fun σ H ρ M D r ⟨W, ⟨m0, w0⟩, turn⟩ => by
  refine ⟨fun m σ' H' => ∃ ρ' M', Fr M H M' H' ∧ Rep X.K H' σ' ρ' M' ∧ W m ρ' M', ⟨m0, ρ, M, .refl _ _, r, w0⟩, ?_⟩
  rintro m σ1 H1 ⟨ρ1, M1, f1, r1, w1⟩
  refine dnT_of r1 (turn m ρ1 M1 w1) fun k H2 M2 f2 r2 q => ?_
  cases k with
  | true =>
    refine ⟨fun σ' H' => ∃ m', m' < m ∧ ∃ ρ' M', Fr M H M' H' ∧ Rep X.K H' σ' ρ' M' ∧ W m' ρ' M', fun σ' H' z => z, ?_⟩
    have f12 := f1.trans f2
    refine ⟨ρ1, M2, _, r2, q, fun σ' H' ⟨ρ', M', f, r', z⟩ => let ⟨m', hm, w'⟩ := z.out; ⟨m', hm, ρ', M', f12.trans f, r', w'⟩, fun _ _ p => p.back f12, fun _ _ p => p.back f12, fun σ' H' ⟨ρ', M', f, r', z⟩ => let ⟨m', hm, w'⟩ := z.out; ⟨m', hm, ρ', M', f12.trans f, r', w'⟩⟩
  | false => exact ⟨ρ1, M2, f1.trans f2, r2, q⟩

/-! ### for -/
/-- turn by turn; gd: what the walked list wants of the memory -/
def runFor (gd : Mp → Prop) (g : TG3) (tb : TS3) (D : En3) : List L3.D → En → Mp → Prop
  | [], ρ, M => gd M ∧ D.nx ρ M
  | x :: xs, ρ, M => gd M ∧ g x ρ M fun ρ2 M2 => tb { D with nx := runFor gd g tb D xs, ct := runFor gd g tb D xs, bk := D.nx } ρ2 M2
/-- what an iterator yields -/
structure ItIs (K : PySem.W.Frag) (J : It) (inv : Hp → Prop) (ds : List L3.D) : Prop where
  go : ∀ i H, i < ds.length → inv H → J.go i H
  yld : ∀ i H x H', i < ds.length → inv H → J.yld i H x H' → H' = H ∧ ∃ d, ds[i]? = some d ∧ Dat K H d x
  stop : ∀ H, inv H → J.stop ds.length H
theorem PG3.dn {tg : Expr} {g : TG3} (h : PG3 X tg g) : PG X tg (fun v σ H Q => ∃ ρ M d Q0, Rep X.K H σ ρ M ∧ Dat X.K H d v ∧ g d ρ M Q0 ∧ ∀ σ' H', PostN X.K M H Q0 σ' H' → Q σ' H') :=
  fun pins s σ H v u Q I rv ⟨ρ, M, d, Q0, r, dv, q, k⟩ => thn (h.run pins s σ H ρ M v d u Q0 I r rv dv q) fun _ _ ⟨σ', H', I', p⟩ => ⟨σ', H', I', k _ _ p⟩
theorem for_core {K : PySem.W.Frag} {J : It} {inv : Hp → Prop} {ds : List L3.D} {gd : Mp → Prop} {g : TG3} {tb : TS3} {D : En3} {σ : St} {H H0 : Hp} {ρ : En} {M M0 : Mp} (hJ : ItIs K J inv ds)
    (f0 : Fr M0 H0 M H) (r : Rep K H σ ρ M)
    (stay : ∀ M1 H1, Fr M H M1 H1 → RepM K H1 M1 → gd M1 → inv H1) (q : runFor gd g tb D ds ρ M) :
    ∃ W : Nat → Nat → St → Hp → Prop, (∃ m, W 0 m σ H) ∧ ∀ i m σ H, W i m σ H →
      (J.stop i H ∧ (ends K M0 H0 D).nx σ H) ∨ (J.go i H ∧ ∃ N : St → Hp → Prop, (∀ σ' H', N σ' H' → ∃ m', m' < m ∧ W (i + 1) m' σ' H') ∧ ∀ x H', J.yld i H x H' →
        (∃ ρ M d Q0, Rep K H' σ ρ M ∧ Dat K H' d x ∧ g d ρ M Q0 ∧ ∀ σ2 H2, PostN K M H' Q0 σ2 H2 → dnS K tb { (ends K M0 H0 D) with nx := N, ct := N, bk := (ends K M0 H0 D).nx } σ2 H2)) := by
  refine ⟨fun i m σ1 H1 => m = ds.length - i ∧ i ≤ ds.length ∧ ∃ ρ1 M1, Fr M H M1 H1 ∧ Rep K H1 σ1 ρ1 M1 ∧ runFor gd g tb D (ds.drop i) ρ1 M1, ⟨ds.length, by simp, Nat.zero_le _, ρ, M, .refl _ _, r, by simpa using q⟩, ?_⟩
  rintro i m σ1 H1 ⟨rfl, hi, ρ1, M1, f1, r1, q1⟩
  by_cases hlt : i < ds.length
  · have hdr : ds.drop i = ds[i] :: ds.drop (i + 1) := List.drop_eq_getElem_cons hlt
    rw [hdr] at q1
    obtain ⟨hg, q1⟩ := q1
    have hI1 := stay M1 H1 f1 r1.mem hg
    refine .inr ⟨hJ.go i H1 hlt hI1, fun σ' H' => ∃ ρ' M', Fr M H M' H' ∧ Rep K H' σ' ρ' M' ∧ runFor gd g tb D (ds.drop (i + 1)) ρ' M', fun σ' H' ⟨ρ', M', f', r', q'⟩ => ⟨ds.length - (i + 1), by omega, rfl, hlt, ρ', M', f', r', q'⟩, fun x H' y => ?_⟩
    obtain ⟨e, d, hd1, hd2⟩ := hJ.yld i H1 x H' hlt hI1 y
    subst e
    have ed : d = ds[i] := Option.some.inj (hd1.symm.trans (List.getElem?_eq_getElem hlt))
    subst ed
    refine ⟨ρ1, M1, _, _, r1, hd2, q1, fun σ2 H2 ⟨ρ2, M2, f2, r2, q2⟩ => ?_⟩
    have f12 := f1.trans f2
    have f02 := f0.trans f12
    exact ⟨ρ2, M2, _, r2, q2, fun σ' H' ⟨ρ', M', f, r', z⟩ => ⟨ρ', M', f12.trans f, r', z⟩, fun _ _ p => p.back f02, fun _ _ p => p.back f02, fun σ' H' ⟨ρ', M', f, r', z⟩ => ⟨ρ', M', f12.trans f, r', z⟩⟩
  · have e : i = ds.length := by omega
    subst e
    rw [List.drop_of_length_le (Nat.le_refl _)] at q1
    obtain ⟨hg, q1⟩ := q1
    exact .inl ⟨hJ.stop H1 (stay M1 H1 f1 r1.mem hg), ρ1, M1, f0.trans f1, r1, q1⟩
/-- over a tuple -/
def tForT (te : TE3) (g : TG3) (tb : TS3) : TS3 := fun D ρ M => te ρ M fun d M1 => ∃ xs, d = .tup xs ∧ runFor (fun _ => True) g tb D xs ρ M1
/-- over a list that the body leaves as it is -/
def tForL (te : TE3) (g : TG3) (tb : TS3) : TS3 := fun D ρ M => te ρ M fun d M1 => ∃ a xs, d = .ref a ∧ M1 a = some (.lst xs) ∧ runFor (fun M => M a = some (.lst xs)) g tb D xs ρ M1
/-- over a display of a list -/
def tForD (t : TA3) (g : TG3) (tb : TS3) : TS3 := fun D ρ M => t ρ M fun xs M1 => xs.length ≤ sizeLine ∧ runFor (fun _ => True) g tb D xs ρ M1
/-- over range(n) -/
def tForR (t : TA3) (g : TG3) (tb : TS3) : TS3 := fun D ρ M => t ρ M fun vs M1 => ∃ j : Int, vs = [.int j] ∧ -(2 ^ 62) ≤ j ∧ j < 2 ^ 62 ∧ runFor (fun _ => True) g tb D ((List.range j.toNat).map fun (k : Nat) => L3.D.int (k : Int)) ρ M1
variable {tg iter : Expr} {body : List Stmt} {g : TG3} {tb : TS3}
theorem itt_is {K : PySem.W.Frag} {a : Addr} {ds : List L3.D} : ItIs K (Itt K a) (fun H => ∃ vs, H a = some (.tup vs) ∧ Dats K H ds vs) ds :=
  ⟨fun i H hi ⟨vs, h, hd⟩ => ⟨vs, vs[i]'(by rw [← hd.length]; exact hi), SqT.of h, List.getElem?_eq_getElem _⟩, fun i H x H' _ ⟨vs, h, hd⟩ y => ⟨y.1, hd.back (y.2 vs (SqT.of h))⟩, fun H ⟨vs, h, hd⟩ => ⟨vs, SqT.of h, by rw [hd.length]; exact Nat.le_refl _⟩⟩
theorem itl_is {K : PySem.W.Frag} {a : Addr} {ds : List L3.D} : ItIs K (Itl K a) (fun H => ∃ vs, H a = some (.lst vs) ∧ Dats K H ds vs) ds :=
  ⟨fun i H hi ⟨vs, h, hd⟩ => ⟨vs, vs[i]'(by rw [← hd.length]; exact hi), SqL.of h, List.getElem?_eq_getElem _⟩, fun i H x H' _ ⟨vs, h, hd⟩ y => ⟨y.1, hd.back (y.2 vs (SqL.of h))⟩, fun H ⟨vs, h, hd⟩ => ⟨vs, SqL.of h, by rw [hd.length]; exact Nat.le_refl _⟩⟩
theorem itr_is {K : PySem.W.Frag} {n : Nat} : ItIs K (Itr 0 n) (fun _ => True) ((List.range n).map fun (k : Nat) => L3.D.int (k : Int)) :=
  ⟨fun i H hi _ => by show i < n; simpa using hi, fun i H x H' hi _ y => ⟨y.1, L3.D.int (i : Int), by
    have hi : i < n := by simpa using hi
    simp [hi], dat_int.mpr (by rw [y.2, Int.zero_add])⟩, fun H _ => by show n ≤ _; simp⟩
theorem s_forT (hp : PassesOwn (model X.prog X.w) X.A X.env X.xe) (hc : X.calm = true) (hi : PE3 X iter te) (hg : PG3 X tg g) (hb : PSs3 X body tb)
    (hs : ∀ x, foldedSetIterable iter X.env x = pure x := by intro _; rfl) : PS3 X (.For tg iter body [] pos) (tForT te g tb) := upS (ps_for hp hc (pi_tup hi.dn) hg.dn hb.dn hs) fun σ H ρ M D r q => dn_of r q fun v H' d M' f dv r' ⟨xs, e1, q⟩ => by
  subst e1
  obtain ⟨a, ys, rfl, ha, hy⟩ := dat_tup.mp dv
  refine ⟨a, rfl, ⟨ys, SqT.of ha⟩, for_core itt_is f r' (fun M1 H1 f1 _ _ => ⟨ys, ?_, Dats.mono (f1.ext r'.mem) _ _ hy⟩) q⟩
  exact (f1 a _ (r'.mem.notLst ha (fun _ z => by cases z)) ha).1
theorem s_forL (hp : PassesOwn (model X.prog X.w) X.A X.env X.xe) (hc : X.calm = true) (hi : PE3 X iter te) (hg : PG3 X tg g) (hb : PSs3 X body tb)
    (hs : ∀ x, foldedSetIterable iter X.env x = pure x := by intro _; rfl) : PS3 X (.For tg iter body [] pos) (tForL te g tb) := upS (ps_for hp hc (pi_list hi.dn) hg.dn hb.dn hs) fun σ H ρ M D r q => dn_of r q fun v H' d M' f dv r' ⟨a, xs, e1, hM, q⟩ => by
  subst e1
  obtain rfl := dat_ref.mp dv
  obtain ⟨ys, ha, hy⟩ := r'.mem.lst hM
  exact ⟨a, rfl, ⟨ys, SqL.of ha⟩, for_core itl_is f r' (fun M1 H1 f1 rm1 g1 => rm1.lst g1) q⟩
theorem s_forD {es : List Expr} {t : TA3} {lpos : Pos} (hp : PassesOwn (model X.prog X.w) X.A X.env X.xe) (hc : X.calm = true) (hi : PA3 X es t) (hg : PG3 X tg g) (hb : PSs3 X body tb)
    (hs : ∀ x, foldedSetIterable (.List es lpos) X.env x = pure x := by intro _; rfl) : PS3 X (.For tg (.List es lpos) body [] pos) (tForD t g tb) := upS (ps_for hp hc (pi_list (pe_lst hi.dn)) hg.dn hb.dn hs) fun σ H ρ M D r q => dnA_of r q fun vs H' ds M' f dv r' ⟨hl, q⟩ => by
  refine ⟨by rw [← dv.length]; exact hl, fun p hp => ⟨p, rfl, ⟨vs, SqL.of upd_same⟩, ?_⟩⟩
  have fr : Fr M' H' M' (upd H' p (.lst vs)) := Fr.new hp fun _ _ => rfl
  have r2 := r'.go fr (r'.mem.new hp)
  exact for_core itl_is (f.trans fr) r2 (fun M1 H1 f1 _ _ => ⟨vs, (f1 p _ (r'.mem.free hp) upd_same).1, Dats.mono ((Ext.new hp).trans (f1.ext r2.mem)) _ _ dv⟩) q
theorem s_forR {a : Expr} {t : TA3} {p rpos : Pos} (hp : PassesOwn (model X.prog X.w) X.A X.env X.xe) (hc : X.calm = true) (hgl : Gl X "range") (hm : X.mg "range" = none) (ha : PA3 X [a] t) (hg : PG3 X tg g) (hb : PSs3 X body tb)
    (hst : starEach [a] X.env = [(false, eval a X.env)] := by rfl)
    (hs : ∀ x, foldedSetIterable (.Call (.Name "range" p) [a] [] rpos) X.env x = pure x := by intro _; rfl) : PS3 X (.For tg (.Call (.Name "range" p) [a] [] rpos) body [] pos) (tForR t g tb) := upS (ps_for hp hc (pi_range1 hgl hm ha.dn hst) hg.dn hb.dn hs) fun σ H ρ M D r q => dnA_of r q fun vs H' ds M' f dv r' ⟨j, e1, h1, h2, q⟩ => by
  subst e1
  obtain ⟨v, rfl, hv⟩ := dats1 dv
  obtain rfl := dat_int.mp hv
  exact ⟨j, rfl, h1, h2, for_core itr_is f r' (fun _ _ _ _ _ => trivial) q⟩
/-- xs.append(e) -/
def tApp3 (to te : TE3) : TE3 := fun ρ M Q => to ρ M fun d M1 => (∃ l xs, d = .ref l ∧ M1 l = some (.lst xs)) ∧ te ρ M1 fun e M2 => ∃ l xs, d = .ref l ∧ M2 l = some (.lst xs) ∧ xs.length < sizeLine ∧ Q .non (updM M2 l (.lst (xs ++ [e])))
theorem q_app {o e : Expr} {to te : TE3} {apos : Pos} (ho : PE3 X o to) (he : PE3 X e te) (hpe : PE X (.Call (.Attribute o "append" apos) [e] [] pos) (tBM X.K "list" rAppend (dn X.K to) (tCons (dn X.K te) tNil))) : PE3 X (.Call (.Attribute o "append" apos) [e] [] pos) (tApp3 to te) :=
  up hpe fun σ H ρ M Q r q => dn_of r q fun v H' d M' f dv r' ⟨⟨l, xs, e1, hM⟩, q⟩ => by
    subst e1
    obtain rfl := dat_ref.mp dv
    obtain ⟨ys, ha, hy⟩ := r'.mem.lst hM
    refine ⟨.inl ⟨rfl, _, SqL.of ha⟩, dn_of r' q fun u H2 d2 M2 f2 du r2 ⟨l', xs', e2, hM2, hlt, q2⟩ => ?_⟩
    injection e2 with e2
    subst e2
    obtain ⟨zs, hb, hz⟩ := r2.mem.lst hM2
    refine ⟨l, zs, u, rfl, rfl, hb, by rw [← hz.length]; exact hlt, .non, _, (f.trans f2).trans (Fr.write (K := X.K) hM2), dat_non.mpr rfl, r2.mem.writeL hb (hz.append (Dats.one du)), q2⟩
end
/-! ### a def's body keeps its promise -/
section
variable {P : Program} {w : World} {K : PySem.W.Frag} {mg : Str → Option Value} {base : Heap}
def start3 (N : List Str) (ds : List D) : En := ds.map some ++ List.replicate (N.length - ds.length) none
theorem rep_start {H : Hp} {N : List Str} {ds : List D} {vs : List V} {M : Mp} (h : Dats K H ds vs) (rm : RepM K H M) : Rep K H (L2.start N vs) (start3 N ds) M := by
  have hl := h.length
  refine ⟨fun i d e => ?_, by unfold L2.start start3; simp [hl], rm⟩
  unfold start3 at e
  by_cases hi : i < ds.length
  · rw [List.getElem?_append_left (by simpa using hi), List.getElem?_map] at e
    cases q : ds[i]? with
    | none => rw [q] at e; cases e
    | some d' =>
      rw [q] at e
      cases e
      obtain ⟨v, h1, h2⟩ := h.get q
      refine ⟨v, ?_, h2⟩
      unfold L2.start
      rw [List.getElem?_append_left (by simp; omega), List.getElem?_map, h1]
      rfl
  · rw [List.getElem?_append_right (by simpa using hi), List.getElem?_replicate] at e
    split at e <;> cases e
theorem fnP {x qual : Str} {st : Stmt} {f : Addr} {fd : FuncData} {N ps : List Str} {k : Nat} {S : SpP} (F : Fun K x qual st f fd) (Sc : FnScope N ps (defScope st)) (len : ∀ ds Q, S ds Q → ds.length = ps.length)
    (hbody : ∀ (cdv : Value) (A : Around) (outer : List Env) (s : Shared) (H : Hp), Room k (A.deeper (envOfC qual (defScope st) s.heap.objs.size f cdv)) →
      ∃ t, PSs3 (cxOf CX0 P w K mg base N qual (defScope st) f cdv A outer s H E0).nox (defBody st) t ∧ ∀ ds Q, S ds Q → t { nx := fun _ _ => Q .non, rt := fun d _ => Q d } (start3 N ds) noM) :
    FnOk P w K mg base CX0 (k + 1) f fd ps (spP K S) := by
  refine F.ok Sc (fun vs H Q E h => ?_) (fun cdv A outer s H vs Q E hr h => ?_)
  · obtain ⟨ds, Q0, h1, h2, _⟩ := h
    rw [← h1.length, len ds Q0 h2]
  · obtain ⟨ds, Q0, h1, h2, h3⟩ := h
    obtain ⟨t, ht, hq⟩ := hbody cdv A outer s H hr
    have hE : (cxOf CX0 P w K mg base N qual (defScope st) f cdv A outer s H E).nox = (cxOf CX0 P w K mg base N qual (defScope st) f cdv A outer s H E0).nox := rfl
    refine ⟨_, PSs3.dn (by rw [hE]; exact ht), start3 N ds, noM, _, rep_start h1 RepM.no, hq ds Q0 h2, fun σ' H' ⟨ρ', M', f', r', q⟩ => ?_, fun v H' ⟨d, M', f', dv, rm, q⟩ => ?_, fun _ _ ⟨_, _, _, _, z⟩ => z.elim, fun _ _ ⟨_, _, _, _, z⟩ => z.elim⟩
    · exact h3 .non .non H' q (dat_non.mpr rfl) fun b o e => (f' b o rfl e).1
    · exact h3 d v H' q dv fun b o e => (f' b o rfl e).1
theorem fn3 {x qual : Str} {st : Stmt} {f : Addr} {fd : FuncData} {N ps : List Str} {k : Nat} {S : Sp3} (F : Fun K x qual st f fd) (Sc : FnScope N ps (defScope st)) (len : ∀ ds M Q, S ds M Q → ds.length = ps.length)
    (hbody : ∀ (cdv : Value) (A : Around) (outer : List Env) (s : Shared) (H : Hp), Room k (A.deeper (envOfC qual (defScope st) s.heap.objs.size f cdv)) →
      ∃ t, PSs3 (cxOf CX0 P w K mg base N qual (defScope st) f cdv A outer s H E0).nox (defBody st) t ∧ ∀ ds M Q, S ds M Q → t { nx := fun _ M' => Hold (∃ M0, Le M0 M' ∧ Q .non M0), rt := fun d M' => Hold (∃ M0, Le M0 M' ∧ Q d M0) } (start3 N ds) M) :
    FnOk P w K mg base CX0 (k + 1) f fd ps (sp3 K S) := by
  refine F.ok Sc (fun vs H Q E h => ?_) (fun cdv A outer s H vs Q E hr h => ?_)
  · obtain ⟨ds, M, Q0, h1, _, h2, _⟩ := h
    rw [← h1.length, len ds M Q0 h2]
  · obtain ⟨ds, M, Q0, h1, rm, h2, h3⟩ := h
    obtain ⟨t, ht, hq⟩ := hbody cdv A outer s H hr
    have hE : (cxOf CX0 P w K mg base N qual (defScope st) f cdv A outer s H E).nox = (cxOf CX0 P w K mg base N qual (defScope st) f cdv A outer s H E0).nox := rfl
    refine ⟨_, PSs3.dn (by rw [hE]; exact ht), start3 N ds, M, _, rep_start h1 rm, hq ds M Q0 h2, fun σ' H' ⟨ρ', M', f', r', z⟩ => ?_, fun v H' ⟨d, M', f', dv, rm', z⟩ => ?_, fun _ _ ⟨_, _, _, _, z⟩ => z.elim, fun _ _ ⟨_, _, _, _, z⟩ => z.elim⟩
    · obtain ⟨M0, l, q⟩ := z.out
      exact h3 .non M0 .non H' q (dat_non.mpr rfl) (r'.mem.le l) (f'.le l)
    · obtain ⟨M0, l, q⟩ := z.out
      exact h3 d M0 v H' q dv (rm'.le l) (f'.le l)
end
end L3

/-! < over data, sizes of ints, what the built-in names are, the places. -/
namespace L3
open PySem PySem.Spec PyProof.Rows L2
section
variable {X : Cx}
def intsOf : List D → Option (List Int)
  | [] => some []
  | .int i :: ds => (intsOf ds).map (i :: ·)
  | _ :: _ => none
theorem intsOf_map : ∀ {ds : List D} {ns : List Int}, intsOf ds = some ns → ds = ns.map D.int
  | [], ns, h => by cases h; rfl
  | .int i :: ds, ns, h => by
    have h : (intsOf ds).map (i :: ·) = some ns := h
    cases q : intsOf ds with
    | none => rw [q] at h; cases h
    | some ms =>
      rw [q] at h
      have h : i :: ms = ns := Option.some.inj h
      subst h
      rw [intsOf_map q]; rfl
  | .non :: _, ns, h => by cases h
  | .bl _ :: _, ns, h => by cases h
  | .str _ :: _, ns, h => by cases h
  | .ty _ :: _, ns, h => by cases h
  | .ref _ :: _, ns, h => by cases h
  | .tup _ :: _, ns, h => by cases h
  | .frl _ :: _, ns, h => by cases h
  | .thg _ :: _, ns, h => by cases h
def ltD : D → D → Option Bool
  | .int i, .int j => some (decide (i < j))
  | .tup ds, .tup es => match intsOf ds, intsOf es with
    | some ns, some ms => some (HT.lexLt ns ms)
    | _, _ => none
  | _, _ => none
def rLtD : R3 := fun d e M Q => ∃ b, ltD d e = some b ∧ Q (.bl b) M
theorem o_ltD (hu : X.A.units + 64 < cLine) : Op3 X (compareOp .Lt) rLtD := by
  constructor
  intro pins s σ H M x y d e v u Q I rm rx ry dx dy ⟨b, hb, q⟩
  unfold ltD at hb
  split at hb
  · rename_i i j
    have hb := Option.some.inj hb
    subst hb
    exact o_lt.run pins s σ H M x y _ _ v u Q I rm rx ry dx dy ⟨i, j, rfl, rfl, q⟩
  · rename_i ds es
    split at hb
    · rename_i ns ms h1 h2
      have hb := Option.some.inj hb
      subst hb
      exact (o_ltT hu).run pins s σ H M x y _ _ v u Q I rm rx ry dx dy ⟨ns, ms, by rw [intsOf_map h1], by rw [intsOf_map h2], q⟩
    · cases hb
  · cases hb
theorem boot3_len : bootBuiltins "len" = some (.builtin "len") := by decide +kernel
theorem boot3_abs : bootBuiltins "abs" = some (.builtin "abs") := by decide +kernel
theorem boot3_min : bootBuiltins "min" = some (.builtin "min") := by decide +kernel
theorem boot3_max : bootBuiltins "max" = some (.builtin "max") := by decide +kernel
theorem boot3_sorted : bootBuiltins "sorted" = some (.builtin "sorted") := by decide +kernel
theorem boot3_isinstance : bootBuiltins "isinstance" = some (.builtin "isinstance") := by decide +kernel
theorem boot3_list : bootBuiltins "list" = some (.type "list") := by decide +kernel
theorem boot3_zip : bootBuiltins "zip" = some (.type "zip") := by decide +kernel
theorem boot3_int : bootBuiltins "int" = some (.type "int") := by decide +kernel
theorem boot3_bool : bootBuiltins "bool" = some (.type "bool") := by decide +kernel
theorem boot3_tuple : bootBuiltins "tuple" = some (.type "tuple") := by decide +kernel
theorem boot3_ValueError : bootBuiltins "ValueError" = some (.type "ValueError") := by decide +kernel
end

/-! ### sizes -/
theorem pow_mono {m n : Nat} (h : m ≤ n) : 2 ^ m ≤ 2 ^ n := Nat.pow_le_pow_right (by decide) h
theorem Sm.le {m n : Nat} {i : Int} (h : Sm m i) (l : m ≤ n) : Sm n i := Nat.lt_of_lt_of_le h (pow_mono l)
theorem Sm.of_abs {n : Nat} {i j : Int} (h : Sm n j) (l : i.natAbs ≤ j.natAbs) : Sm n i := Nat.lt_of_le_of_lt l h
theorem Sm.add {m n : Nat} {i j : Int} (h1 : Sm m i) (h2 : Sm n j) : Sm (max m n + 1) (i + j) := by
  have a := Nat.lt_of_lt_of_le h1 (pow_mono (Nat.le_max_left m n))
  have b := Nat.lt_of_lt_of_le h2 (pow_mono (Nat.le_max_right m n))
  show (i + j).natAbs < 2 ^ (max m n + 1)
  rw [Nat.pow_succ]
  have := Int.natAbs_add_le i j
  omega
theorem Sm.neg {n : Nat} {i : Int} (h : Sm n i) : Sm n (-i) := by
  show (-i).natAbs < _
  rw [Int.natAbs_neg]; exact h
theorem Sm.sub {m n : Nat} {i j : Int} (h1 : Sm m i) (h2 : Sm n j) : Sm (max m n + 1) (i - j) := by
  rw [Int.sub_eq_add_neg]; exact h1.add h2.neg
theorem Sm.mul {m n : Nat} {i j : Int} (h1 : Sm m i) (h2 : Sm n j) : Sm (m + n) (i * j) := by
  show (i * j).natAbs < 2 ^ (m + n)
  rw [Int.natAbs_mul, Nat.pow_add]
  exact Nat.mul_lt_mul'' h1 h2
theorem Sm.abs {n : Nat} {i : Int} (h : Sm n i) : Sm n (i.natAbs : Int) := h
theorem Sm.of_bounds {n : Nat} {i : Int} (h1 : -(2 ^ n : Nat) < i) (h2 : i < (2 ^ n : Nat)) : Sm n i := by
  show i.natAbs < 2 ^ n
  omega
theorem Sm.emod {n : Nat} {i j : Int} (hj : 0 < j) (h : Sm n j) : Sm n (i % j) := by
  have h1 := Int.emod_nonneg i (show j ≠ 0 by omega)
  have h2 := Int.emod_lt_of_pos i hj
  exact h.of_abs (by omega)
instance {n : Nat} {i : Int} : Decidable (Sm n i) := inferInstanceAs (Decidable (_ < _))
theorem Sm.sign (i : Int) : Sm 1 i.sign := by
  rcases Int.lt_trichotomy i 0 with h | h | h
  · rw [Int.sign_eq_neg_one_of_neg h]; decide
  · subst h; decide
  · rw [Int.sign_eq_one_of_pos h]; decide
theorem MulOk.of {m n : Nat} {i j : Int} (h1 : Sm m i) (h2 : Sm n j) (h : m + n ≤ 100000) : MulOk i j := ⟨m, n, h1, h2, h⟩

theorem Sm.lit (i : Int) : Sm (i.natAbs.log2 + 1) i := Nat.lt_log2_self
theorem Sm.two : Sm 2 2 := by decide
theorem Sm.one : Sm 1 1 := by decide
theorem Sm.zero : Sm 0 0 := by decide
theorem kit_same {K : PySem.W.Frag} {n : String} : PySem.W.kitOne K (.type n) (.type n) = some true := by simp [PySem.W.kitOne]
/-! ### a pair of ints: a place, a fraction -/
structure Pl where
  x : Int
  y : Int
  deriving DecidableEq
def Pl.d (p : Pl) : D := .tup [.int p.x, .int p.y]
def Pl.Ok (n : Nat) (p : Pl) : Prop := Sm n p.x ∧ Sm n p.y
theorem eqD_Pl (p q : Pl) : eqD p.d q.d = decide (p = q) := by
  unfold Pl.d
  rw [eqD_tup, eqDs_cons, eqDs_cons, eqDs_nil, eqD_int, eqD_int, Bool.eq_iff_iff]
  cases p; cases q
  simp
end L3
namespace L3
open PySem L2
/-- what a law promises -/
def S_lawOf : SpP := fun ds Q => ∃ ns : List Int, ds = [.frl (ns.map D.int)] ∧ ns.length ≤ 63 ∧ Q (.bl true)
theorem dats_ints {K : PySem.W.Frag} {H : Hp} : ∀ (ns : List Int), Dats K H (ns.map D.int) (ns.map V.int)
  | [] => dats_nil.mpr rfl
  | n :: ns => dats_cons.mpr ⟨_, _, rfl, dat_int.mpr rfl, dats_ints ns⟩
theorem law_sp {K : PySem.W.Frag} {H : Hp} {a : Addr} {ns : List Int} {E : XK} (hl : ns.length ≤ 63) (hO : Only H) (hS : SqL K H a (ns.map V.int)) : spP K S_lawOf [.ref a] H (fun v _ => v = .bl true) E := by
  have hz : Fz K H a (ns.map V.int) := by
    rcases hS with (h | ⟨o, h⟩) | h
    · rcases hO a with z | ⟨o, xs, z⟩
      · rw [z] at h; cases h
      · rw [z] at h; cases h
    · exact .inl ⟨o, h⟩
    · exact .inr h
  exact ⟨[.frl (ns.map D.int)], fun d => d = .bl true, Dats.one (dat_frl.mpr ⟨a, _, rfl, hz, dats_ints ns⟩), ⟨ns, rfl, hl, rfl⟩, fun d v H' q dv _ => by subst q; exact dat_bl.mp dv⟩
end L3
namespace L3
/-! ### a loop by what holds between its turns -/
theorem runFor_inv {gd : Mp → Prop} {g : TG3} {tb : TS3} {D : En3} {ρ : En} {M : Mp} (Pv : Nat → En → Mp → Prop) : ∀ (xs : List L3.D),
    (∀ (i : Nat) (x : L3.D) (ρ : En) (M : Mp) (N : En → Mp → Prop), xs[i]? = some x → Pv i ρ M → (∀ ρ' M', Pv (i + 1) ρ' M' → N ρ' M') → gd M ∧ g x ρ M fun ρ2 M2 => tb { D with nx := N, ct := N, bk := D.nx } ρ2 M2) →
    (∀ ρ M, Pv xs.length ρ M → gd M ∧ D.nx ρ M) → Pv 0 ρ M → runFor gd g tb D xs ρ M := by
  intro xs hs hd h0
  have key : ∀ (ys : List L3.D) (i : Nat) (ρ : En) (M : Mp), xs.drop i = ys → Pv i ρ M → i ≤ xs.length → runFor gd g tb D ys ρ M := by
    intro ys
    induction ys with
    | nil =>
      intro i ρ M e p hi
      have : xs.length ≤ i := by
        have := congrArg List.length e
        rw [List.length_drop] at this
        simp at this
        omega
      have : i = xs.length := by omega
      subst this
      exact hd ρ M p
    | cons y ys ih =>
      intro i ρ M e p hi
      have hx : xs[i]? = some y := by
        have := congrArg (fun l => l[0]?) e
        simpa using this
      have hlt : i < xs.length := (List.getElem?_eq_some_iff.mp hx).1
      refine hs i y ρ M _ hx p fun ρ' M' p' => ih (i + 1) ρ' M' ?_ p' hlt
      rw [← List.drop_drop, e]
      rfl
  exact key xs 0 ρ M rfl h0 (Nat.zero_le _)
theorem range_get {n i : Nat} {x : L3.D} (h : ((List.range n).map fun (k : Nat) => L3.D.int (k : Int))[i]? = some x) : i < n ∧ x = .int (i : Int) := by
  rw [List.getElem?_map] at h
  by_cases hi : i < n
  · rw [List.getElem?_range hi] at h
    exact ⟨hi, (Option.some.inj h).symm⟩
  · rw [List.getElem?_eq_none (by simp; omega)] at h
    cases h
end L3

/-! The mathematics of fractions, squares, turns. -/
namespace L3
theorem mul_self_nn (a : Int) : 0 ≤ a * a := by
  rcases Int.le_total 0 a with h | h
  · exact Int.mul_nonneg h h
  · exact Int.mul_nonneg_of_nonpos_of_nonpos h h
theorem sq_pos {a b : Int} (h : ¬ (a = 0 ∧ b = 0)) : 0 < a * a + b * b := by
  have h1 := mul_self_nn a
  have h2 := mul_self_nn b
  rcases Int.lt_trichotomy (a * a + b * b) 0 with q | q | q
  · omega
  · have e1 : a * a = 0 := by omega
    have e2 : b * b = 0 := by omega
    have f1 : a = 0 := by rcases Int.mul_eq_zero.mp e1 with z | z <;> exact z
    have f2 : b = 0 := by rcases Int.mul_eq_zero.mp e2 with z | z <;> exact z
    exact absurd ⟨f1, f2⟩ h
  · exact q
theorem pos_of_mul {a b : Int} (h : 0 < a * b) (ha : 0 < a) : 0 < b := by
  rcases Int.lt_or_le 0 b with q | q
  · exact q
  · have := Int.mul_nonneg (Int.le_of_lt ha) (show 0 ≤ -b by omega)
    rw [Int.mul_neg] at this
    omega
theorem sign_sq {b : Int} (h : b ≠ 0) : b.sign * b.sign = 1 := by
  rcases Int.lt_trichotomy b 0 with q | q | q
  · rw [Int.sign_eq_neg_one_of_neg q]; rfl
  · exact absurd q h
  · rw [Int.sign_eq_one_of_pos q]; rfl
theorem gcd_parts (a b : Int) (hb : b ≠ 0) : ∃ k l : Int, a = (Int.gcd a b : Int) * k ∧ b = (Int.gcd a b : Int) * l ∧ 0 < (Int.gcd a b : Int) ∧ Int.gcd k l = 1 := by
  obtain ⟨k, hk⟩ := Int.gcd_dvd_left (a := a) (b := b)
  obtain ⟨l, hl⟩ := Int.gcd_dvd_right (a := a) (b := b)
  have hg : 0 < Int.gcd a b := Int.gcd_pos_of_ne_zero_right a hb
  refine ⟨k, l, hk, hl, by omega, ?_⟩
  have e : Int.gcd ((Int.gcd a b : Int) * k) ((Int.gcd a b : Int) * l) = (Int.gcd a b : Int).natAbs * Int.gcd k l := Int.gcd_mul_left _ _ _
  rw [← hk, ← hl] at e
  have e2 : (Int.gcd a b : Int).natAbs = Int.gcd a b := rfl
  rw [e2] at e
  have : Int.gcd a b * 1 = Int.gcd a b * Int.gcd k l := by omega
  exact (Nat.eq_of_mul_eq_mul_left hg this).symm
def frac (a b : Int) : Pl := ⟨a.fdiv ((Int.gcd a b : Int) * b.sign), b.fdiv ((Int.gcd a b : Int) * b.sign)⟩
theorem frac_eq {a b k l : Int} (hb : b ≠ 0) (ha : a = (Int.gcd a b : Int) * k) (hl : b = (Int.gcd a b : Int) * l) (hg : 0 < (Int.gcd a b : Int)) : frac a b = ⟨b.sign * k, b.sign * l⟩ := by
  have hs := sign_sq hb
  have hd : (Int.gcd a b : Int) * b.sign ≠ 0 := by
    intro z
    rcases Int.mul_eq_zero.mp z with z | z
    · omega
    · rw [z] at hs; exact absurd hs (by decide)
  have e1 : a = (Int.gcd a b : Int) * b.sign * (b.sign * k) := by
    have : (Int.gcd a b : Int) * b.sign * (b.sign * k) = (Int.gcd a b : Int) * k * (b.sign * b.sign) := by grind
    rw [this, hs, Int.mul_one]; exact ha
  have e2 : b = (Int.gcd a b : Int) * b.sign * (b.sign * l) := by
    have : (Int.gcd a b : Int) * b.sign * (b.sign * l) = (Int.gcd a b : Int) * l * (b.sign * b.sign) := by grind
    rw [this, hs, Int.mul_one]; exact hl
  unfold frac
  generalize hdd : (Int.gcd a b : Int) * b.sign = d at *
  have f1 : a.fdiv d = b.sign * k := by
    rw [e1]
    exact Int.mul_fdiv_cancel_left _ hd
  have f2 : b.fdiv d = b.sign * l := by
    conv => lhs; rw [e2]
    exact Int.mul_fdiv_cancel_left _ hd
  rw [f1, f2]
theorem frac_spec {a b : Int} (hb : b ≠ 0) : 0 < (frac a b).y ∧ (frac a b).x * b = a * (frac a b).y ∧ Int.gcd (frac a b).x (frac a b).y = 1 ∧ (frac a b).x.natAbs ≤ a.natAbs ∧ (frac a b).y.natAbs ≤ b.natAbs := by
  obtain ⟨k, l, ha, hl, hg, h1⟩ := gcd_parts a b hb
  rw [frac_eq hb ha hl hg]
  have hs := sign_sq hb
  have sa : b.sign.natAbs = 1 := by
    have := congrArg Int.natAbs hs
    rw [Int.natAbs_mul] at this
    exact Nat.eq_one_of_mul_eq_one_left this
  generalize hG : (Int.gcd a b : Int) = g at *
  have hbs : 0 < b * b.sign := by
    rcases Int.lt_trichotomy b 0 with q | q | q
    · rw [Int.sign_eq_neg_one_of_neg q]; omega
    · exact absurd q hb
    · rw [Int.sign_eq_one_of_pos q]; omega
  refine ⟨?_, ?_, ?_, ?_, ?_⟩
  · show 0 < b.sign * l
    have e : b * b.sign = g * (b.sign * l) := by
      conv => lhs; arg 1; rw [hl]
      grind
    rw [e] at hbs
    exact pos_of_mul hbs (by omega)
  · show b.sign * k * b = a * (b.sign * l)
    conv => lhs; arg 2; rw [hl]
    conv => rhs; arg 1; rw [ha]
    grind
  · show Int.gcd (b.sign * k) (b.sign * l) = 1
    rw [Int.gcd_mul_left, sa, h1]
  · show (b.sign * k).natAbs ≤ a.natAbs
    rw [Int.natAbs_mul, sa, ha, Int.natAbs_mul]
    have : 1 ≤ g.natAbs := by omega
    rw [Nat.one_mul]
    exact Nat.le_mul_of_pos_left _ (by omega)
  · show (b.sign * l).natAbs ≤ b.natAbs
    rw [Int.natAbs_mul, sa]
    conv => rhs; rw [hl, Int.natAbs_mul]
    rw [Nat.one_mul]
    exact Nat.le_mul_of_pos_left _ (by omega)
/-- in lowest terms, the second above 0, by the other way -/
def low (a b : Int) : Pl := ⟨a / (Int.gcd a b : Int), b / (Int.gcd a b : Int)⟩
theorem low_spec {a b : Int} (hb : 0 < b) : 0 < (low a b).y ∧ (low a b).x * b = a * (low a b).y ∧ Int.gcd (low a b).x (low a b).y = 1 ∧ (low a b).x.natAbs ≤ a.natAbs ∧ (low a b).y.natAbs ≤ b.natAbs := by
  obtain ⟨k, l, ha, hl, hg, h1⟩ := gcd_parts a b (by omega)
  have e : low a b = ⟨k, l⟩ := by
    unfold low
    generalize hG : (Int.gcd a b : Int) = g at *
    have f1 : a / g = k := by rw [ha]; exact Int.mul_ediv_cancel_left _ (by omega)
    have f2 : b / g = l := by conv => { lhs; rw [hl] }; exact Int.mul_ediv_cancel_left _ (by omega)
    rw [f1, f2]
  rw [e]
  generalize hG : (Int.gcd a b : Int) = g at *
  refine ⟨?_, ?_, h1, ?_, ?_⟩
  · rw [hl] at hb
    exact pos_of_mul hb (by omega)
  · show k * b = a * l
    conv => lhs; arg 2; rw [hl]
    conv => rhs; arg 1; rw [ha]
    grind
  · show k.natAbs ≤ a.natAbs
    rw [ha, Int.natAbs_mul]
    exact Nat.le_mul_of_pos_left _ (by omega)
  · show l.natAbs ≤ b.natAbs
    conv => rhs; rw [hl, Int.natAbs_mul]
    exact Nat.le_mul_of_pos_left _ (by omega)
/-- two fractions over the same bottom -/
theorem less_same {f g : Pl} {a c b : Int} (hb : 0 < b) (hf : 0 < f.y) (hg : 0 < g.y) (e1 : f.x * b = a * f.y) (e2 : g.x * b = c * g.y) : (f.x * g.y < g.x * f.y) ↔ a < c := by
  have k1 : f.x * g.y * b = a * (f.y * g.y) := by grind
  have k2 : g.x * f.y * b = c * (f.y * g.y) := by grind
  have hp : 0 < f.y * g.y := Int.mul_pos hf hg
  constructor
  · intro h
    have := Int.mul_lt_mul_of_pos_right h hb
    rw [k1, k2] at this
    exact Int.lt_of_mul_lt_mul_right this (Int.le_of_lt hp)
  · intro h
    have := Int.mul_lt_mul_of_pos_right h hp
    rw [← k1, ← k2] at this
    exact Int.lt_of_mul_lt_mul_right this (Int.le_of_lt hb)
end L3
local macro_rules | `(tactic| walk_at "sm") => `(tactic| first | assumption | exact L3.Sm.sign _ | exact L3.Sm.zero | exact L3.Sm.one | exact L3.Sm.two | ((with_reducible apply L3.Sm.mul) <;> walk_at "sm") | ((with_reducible apply L3.Sm.sub) <;> walk_at "sm") | ((with_reducible apply L3.Sm.add) <;> walk_at "sm") | ((with_reducible apply L3.Sm.neg) <;> walk_at "sm") | ((with_reducible apply L3.Sm.abs) <;> walk_at "sm") | ((with_reducible apply L3.Sm.emod); (first | omega | decide +kernel); walk_at "sm") | exact L3.Sm.lit _)
local macro_rules | `(tactic| walk_at "smle") => `(tactic| (apply L3.Sm.le; walk_at "sm"; first | omega | decide +kernel))
namespace L3
/-- the square of the way from p to the point (f, g), times both bottoms' squares -/
@[irreducible] def sqN (p f g : Pl) : Int := (p.x * f.y - f.x) * g.y * ((p.x * f.y - f.x) * g.y) + (p.y * g.y - g.x) * f.y * ((p.y * g.y - g.x) * f.y)
@[irreducible] def sq (p f g : Pl) : Pl := frac (sqN p f g) (f.y * g.y * (f.y * g.y))
theorem sq_spec {p f g : Pl} (f0 : 0 < f.y) (g0 : 0 < g.y) : 0 < (sq p f g).y ∧ (sq p f g).x * (f.y * g.y * (f.y * g.y)) = sqN p f g * (sq p f g).y ∧ Int.gcd (sq p f g).x (sq p f g).y = 1 ∧ (sq p f g).x.natAbs ≤ (sqN p f g).natAbs ∧ (sq p f g).y.natAbs ≤ (f.y * g.y * (f.y * g.y)).natAbs := by
  have hb : 0 < f.y * g.y := Int.mul_pos f0 g0
  have hbb := Int.mul_pos hb hb
  unfold sq
  exact frac_spec (by omega)
theorem sq_ok {p f g : Pl} (hp : p.Ok 140) (hf : f.Ok 1100) (hg : g.Ok 1100) (f0 : 0 < f.y) (g0 : 0 < g.y) : (sq p f g).Ok 6000 := by
  obtain ⟨p1, p2⟩ := hp
  obtain ⟨f1, f2⟩ := hf
  obtain ⟨g1, g2⟩ := hg
  have hb : 0 < f.y * g.y := Int.mul_pos f0 g0
  have hbb := Int.mul_pos hb hb
  obtain ⟨_, _, _, h4, h5⟩ := sq_spec (p := p) f0 g0
  have a1 : Sm 6000 (sqN p f g) := by
    unfold sqN
    walk_at "smle"
  have a2 : Sm 6000 (f.y * g.y * (f.y * g.y)) := by
    walk_at "smle"
  exact ⟨a1.of_abs h4, a2.of_abs h5⟩
@[irreducible] def nr (f g p q : Pl) : Int := if (sq p f g).x * (sq q f g).y < (sq q f g).x * (sq p f g).y then 1 else if (sq q f g).x * (sq p f g).y < (sq p f g).x * (sq q f g).y then -1 else 0
theorem low_ok {a b : Int} {n : Nat} (hb : 0 < b) (sa : Sm n a) (sb : Sm n b) : (low a b).Ok n := by
  obtain ⟨_, _, _, h4, h5⟩ := low_spec (a := a) hb
  exact ⟨sa.of_abs h4, sb.of_abs h5⟩
@[irreducible] def ptX (p q : Pl) (m al to : Int) : Int := (p.x + q.x) * m - 2 * al * (q.y - p.y) + 2 * to * (q.x - p.x)
@[irreducible] def ptY (p q : Pl) (m al to : Int) : Int := (p.y + q.y) * m + 2 * al * (q.x - p.x) + 2 * to * (q.y - p.y)
theorem pos1 (z k : Int) (h : k ≠ 0) : 0 < 1 + z % k := by
  have := Int.emod_nonneg z h
  omega
theorem nr_eq {f g p q : Pl} (f0 : 0 < f.y) (g0 : 0 < g.y) : nr f g p q = (sqN q f g - sqN p f g).sign := by
  have hb : 0 < f.y * g.y := Int.mul_pos f0 g0
  have hbb := Int.mul_pos hb hb
  obtain ⟨a1, a2, _⟩ := sq_spec (p := p) f0 g0
  obtain ⟨b1, b2, _⟩ := sq_spec (p := q) f0 g0
  have k1 := less_same hbb a1 b1 a2 b2
  have k2 := less_same hbb b1 a1 b2 a2
  unfold nr
  by_cases c1 : sqN p f g < sqN q f g
  · rw [if_pos (k1.mpr c1), Int.sign_eq_one_of_pos (by omega)]
  · rw [if_neg (fun z => c1 (k1.mp z))]
    by_cases c2 : sqN q f g < sqN p f g
    · rw [if_pos (k2.mpr c2), Int.sign_eq_neg_one_of_neg (by omega)]
    · rw [if_neg (fun z => c2 (k2.mp z))]
      have : sqN q f g - sqN p f g = 0 := by omega
      rw [this]; rfl
theorem due_eq {p q f g : Pl} {m al to : Int} (hm : 0 < m) (f0 : 0 < f.y) (g0 : 0 < g.y) (hf : f.x * (2 * m) = ptX p q m al to * f.y) (hg : g.x * (2 * m) = ptY p q m al to * g.y) (hpq : p ≠ q) : (sqN q f g - sqN p f g).sign = -to.sign := by
  have L : 0 < (q.x - p.x) * (q.x - p.x) + (q.y - p.y) * (q.y - p.y) := by
    apply sq_pos
    rintro ⟨e1, e2⟩
    apply hpq
    cases p; cases q
    simp only at e1 e2
    congr 1 <;> omega
  have key : 4 * (m * m) * (sqN q f g - sqN p f g) = (f.y * g.y) * (f.y * g.y) * (8 * m * ((q.x - p.x) * (q.x - p.x) + (q.y - p.y) * (q.y - p.y))) * (-to) := by
    unfold sqN
    unfold ptX at hf
    unfold ptY at hg
    have a1 : 2 * m * ((p.x * f.y - f.x) * g.y) = (2 * m * p.x - ((p.x + q.x) * m - 2 * al * (q.y - p.y) + 2 * to * (q.x - p.x))) * (f.y * g.y) := by grind
    have a2 : 2 * m * ((q.x * f.y - f.x) * g.y) = (2 * m * q.x - ((p.x + q.x) * m - 2 * al * (q.y - p.y) + 2 * to * (q.x - p.x))) * (f.y * g.y) := by grind
    have a3 : 2 * m * ((p.y * g.y - g.x) * f.y) = (2 * m * p.y - ((p.y + q.y) * m + 2 * al * (q.x - p.x) + 2 * to * (q.y - p.y))) * (f.y * g.y) := by grind
    have a4 : 2 * m * ((q.y * g.y - g.x) * f.y) = (2 * m * q.y - ((p.y + q.y) * m + 2 * al * (q.x - p.x) + 2 * to * (q.y - p.y))) * (f.y * g.y) := by grind
    generalize (p.x * f.y - f.x) * g.y = R1 at *
    generalize (q.x * f.y - f.x) * g.y = R2 at *
    generalize (p.y * g.y - g.x) * f.y = U1 at *
    generalize (q.y * g.y - g.x) * f.y = U2 at *
    generalize f.y * g.y = W at *
    have e : 4 * (m * m) * (R2 * R2 + U2 * U2 - (R1 * R1 + U1 * U1)) = 2 * m * R2 * (2 * m * R2) + 2 * m * U2 * (2 * m * U2) - (2 * m * R1 * (2 * m * R1) + 2 * m * U1 * (2 * m * U1)) := by grind
    rw [e, a1, a2, a3, a4]
    grind
  have hmm := Int.mul_pos hm hm
  have hW := Int.mul_pos f0 g0
  have hWW := Int.mul_pos hW hW
  have h8 : 0 < 8 * m * ((q.x - p.x) * (q.x - p.x) + (q.y - p.y) * (q.y - p.y)) := Int.mul_pos (by omega) L
  have hP := Int.mul_pos hWW h8
  have e1 : (4 * (m * m) * (sqN q f g - sqN p f g)).sign = (sqN q f g - sqN p f g).sign := by
    rw [Int.sign_mul (4 * (m * m)), Int.sign_eq_one_of_pos (show 0 < 4 * (m * m) by omega), Int.one_mul]
  rw [← e1, key, Int.sign_mul _ (-to), Int.sign_eq_one_of_pos hP, Int.one_mul, Int.sign_neg]
theorem ne_int {i j : Int} (h : i = j) : ¬ ((!eqD (L3.D.int i) (L3.D.int j)) = true) := by
  rw [h, eqD_int, beq_self_eq_true]; decide
theorem nr_self {f g p : Pl} (f0 : 0 < f.y) (g0 : 0 < g.y) : nr f g p p = 0 := by
  rw [nr_eq f0 g0, Int.sub_self]; rfl
theorem nr_swap {f g p q : Pl} (f0 : 0 < f.y) (g0 : 0 < g.y) : nr f g q p = -nr f g p q := by
  rw [nr_eq f0 g0, nr_eq f0 g0, ← Int.sign_neg]; congr 1; omega
end L3

/-! Turns, rings, who spoils: the mathematics. -/
namespace L3
/-- twice the area -/
@[irreducible] def tw (a b c : Pl) : Int := (b.x - a.x) * (c.y - a.y) - (b.y - a.y) * (c.x - a.x)
theorem tw_area (a b c : Pl) : a.x * (b.y - c.y) + b.x * (c.y - a.y) + c.x * (a.y - b.y) = tw a b c := by unfold tw; grind
theorem tw_rot (a b c : Pl) : tw b c a = tw a b c := by unfold tw; grind
theorem tw_swap (a b c : Pl) : tw b a c = -tw a b c := by unfold tw; grind
theorem tw_swap2 (a b c : Pl) : tw a c b = -tw a b c := by unfold tw; grind
theorem tw_same1 (a b : Pl) : tw a a b = 0 := by unfold tw; grind
theorem tw_same2 (a b : Pl) : tw a b b = 0 := by unfold tw; grind
theorem tw_same3 (a b : Pl) : tw a b a = 0 := by unfold tw; grind
/-- comes before -/
def bef (p q : Pl) : Prop := p.x < q.x ∨ (p.x = q.x ∧ p.y < q.y)
instance (p q : Pl) : Decidable (bef p q) := inferInstanceAs (Decidable (_ ∨ _))
theorem bef_irrefl (p : Pl) : ¬ bef p p := by unfold bef; omega
theorem bef_trans {p q r : Pl} (a : bef p q) (b : bef q r) : bef p r := by unfold bef at *; omega
theorem bef_asymm {p q : Pl} (a : bef p q) : ¬ bef q p := by unfold bef at *; omega
theorem bef_tri (p q : Pl) : bef p q ∨ p = q ∨ bef q p := by
  unfold bef
  by_cases h : p = q
  · exact .inr (.inl h)
  · have : ¬ (p.x = q.x ∧ p.y = q.y) := fun ⟨a, b⟩ => h (by cases p; cases q; simp only at a b; rw [a, b])
    omega
theorem bef_ne {p q : Pl} (a : bef p q) : p ≠ q := fun e => bef_irrefl q (e ▸ a)
def lo (p q : Pl) : Pl := if bef q p then q else p
def hi (p q : Pl) : Pl := if bef p q then q else p
/-- between, by sides -/
def dotAt (a b c : Pl) : Int := (a.x - c.x) * (b.x - c.x) + (a.y - c.y) * (b.y - c.y)
theorem pos_mul_iff {a b : Int} (ha : 0 < a) : (0 < a * b ↔ 0 < b) ∧ (a * b < 0 ↔ b < 0) ∧ (a * b = 0 ↔ b = 0) := by
  rcases Int.lt_trichotomy b 0 with h | h | h
  · have := Int.mul_neg_of_pos_of_neg ha h
    omega
  · subst h; simp
  · have := Int.mul_pos ha h
    omega
theorem core_between {ux uy vx vy : Int} (hc : ux * vy = uy * vx) (hu : ux < 0 ∨ (ux = 0 ∧ uy < 0)) (hv : 0 < vx ∨ (vx = 0 ∧ 0 < vy)) : ux * vx + uy * vy < 0 := by
  rcases hu with hu | ⟨hu, hu'⟩
  · rcases hv with hv | ⟨hv, hv'⟩
    · have h1 : ux * vx < 0 := by have := Int.mul_pos (show 0 < -ux by omega) hv; rw [Int.neg_mul] at this; omega
      have h2 : vx * (uy * vy) = ux * (vy * vy) := by grind
      have h3 := mul_self_nn vy
      have h4 : 0 ≤ (-ux) * (vy * vy) := Int.mul_nonneg (by omega) h3
      rw [Int.neg_mul] at h4
      have h5 := (pos_mul_iff (b := uy * vy) hv).1
      omega
    · subst hv
      have := Int.mul_pos (show 0 < -ux by omega) hv'
      rw [Int.neg_mul] at this
      omega
  · subst hu
    rcases hv with hv | ⟨hv, hv'⟩
    · have := Int.mul_pos (show 0 < -uy by omega) hv
      rw [Int.neg_mul] at this
      omega
    · subst hv
      have := Int.mul_pos (show 0 < -uy by omega) hv'
      rw [Int.neg_mul] at this
      omega
theorem core_between2 {ux uy vx vy : Int} (hc : ux * vy = uy * vx) (hu : ux < 0 ∨ (ux = 0 ∧ uy < 0)) (hv : vx < 0 ∨ (vx = 0 ∧ vy < 0)) : 0 < ux * vx + uy * vy := by
  have := core_between (ux := ux) (uy := uy) (vx := -vx) (vy := -vy) (by grind) hu (by omega)
  have e : ux * -vx + uy * -vy = -(ux * vx + uy * vy) := by grind
  omega
theorem between_iff (a b c : Pl) (h0 : tw a b c = 0) : (bef (lo a b) c ∧ bef c (hi a b)) ↔ (c ≠ a ∧ c ≠ b ∧ dotAt a b c < 0) := by
  have hc : (a.x - c.x) * (b.y - c.y) = (a.y - c.y) * (b.x - c.x) := by unfold tw at h0; grind
  have hc' : (b.x - c.x) * (a.y - c.y) = (b.y - c.y) * (a.x - c.x) := by unfold tw at h0; grind
  have e : dotAt a b c = (a.x - c.x) * (b.x - c.x) + (a.y - c.y) * (b.y - c.y) := rfl
  have e' : dotAt a b c = (b.x - c.x) * (a.x - c.x) + (b.y - c.y) * (a.y - c.y) := by rw [e]; grind
  have e'' : dotAt a b c = (-(b.x - c.x)) * (-(a.x - c.x)) + (-(b.y - c.y)) * (-(a.y - c.y)) := by rw [e]; grind
  have hc'' : (-(b.x - c.x)) * (-(a.y - c.y)) = (-(b.y - c.y)) * (-(a.x - c.x)) := by rw [Int.neg_mul_neg, Int.neg_mul_neg]; exact hc'
  unfold lo hi
  rcases bef_tri a c with ha | ha | ha
  · rcases bef_tri c b with hb | hb | hb
    · have hab := bef_trans ha hb
      rw [if_neg (bef_asymm hab), if_pos hab]
      refine ⟨fun _ => ⟨(bef_ne ha).symm, bef_ne hb, ?_⟩, fun _ => ⟨ha, hb⟩⟩
      rw [e]
      exact core_between hc (by unfold bef at ha; omega) (by unfold bef at hb; omega)
    · subst hb
      constructor
      · rintro ⟨_, h2⟩
        exfalso
        split at h2
        · exact bef_irrefl _ h2
        · rename_i z; exact z ha
      · rintro ⟨_, h2, _⟩; exact absurd rfl h2
    · constructor
      · rintro ⟨_, h2⟩
        exfalso
        split at h2
        · exact bef_asymm hb h2
        · exact bef_asymm ha h2
      · rintro ⟨_, _, h⟩
        exfalso
        rw [e] at h
        have := core_between2 hc (by unfold bef at ha; omega) (by unfold bef at hb; omega)
        omega
  · subst ha
    constructor
    · rintro ⟨h1, h2⟩
      exfalso
      split at h1
      · split at h2
        · exact bef_asymm h1 h2
        · exact bef_irrefl _ h2
      · exact bef_irrefl _ h1
    · rintro ⟨h, _⟩; exact absurd rfl h
  · rcases bef_tri c b with hb | hb | hb
    · constructor
      · rintro ⟨h1, _⟩
        exfalso
        split at h1
        · exact bef_asymm hb h1
        · exact bef_asymm ha h1
      · rintro ⟨_, _, h⟩
        exfalso
        rw [e''] at h
        have := core_between2 hc'' (by unfold bef at hb; omega) (by unfold bef at ha; omega)
        omega
    · subst hb
      constructor
      · rintro ⟨h1, h2⟩
        exfalso
        split at h1
        · exact bef_irrefl _ h1
        · rename_i z; exact z ha
      · rintro ⟨_, h2, _⟩; exact absurd rfl h2
    · have hba := bef_trans hb ha
      rw [if_pos hba, if_neg (bef_asymm hba)]
      refine ⟨fun _ => ⟨bef_ne ha, (bef_ne hb).symm, ?_⟩, fun _ => ⟨hb, ha⟩⟩
      rw [e']
      exact core_between hc' (by unfold bef at hb; omega) (by unfold bef at ha; omega)
/-! ### rings -/
@[irreducible] def apt (p q : Pl) : Int := (q.x - p.x) * (q.x - p.x) + (q.y - p.y) * (q.y - p.y)
@[irreducible] def dep (a b c d : Pl) : Int := apt d a * tw d b c + apt d b * tw d c a + apt d c * tw d a b
theorem dep_rot (a b c d : Pl) : dep b c a d = dep a b c d := by unfold dep; grind
theorem dep_swap (a b c d : Pl) : dep b a c d = -dep a b c d := by unfold dep; have := tw_swap d; unfold tw; grind
theorem dep_last (a b c d : Pl) : dep a b d c = -dep a b c d := by unfold dep apt tw; grind
theorem apt_self (a : Pl) : apt a a = 0 := by unfold apt; grind
theorem dep_a (a b c : Pl) : dep a b c a = 0 := by unfold dep; rw [apt_self, tw_same1, tw_same3]; grind
theorem dep_b (a b c : Pl) : dep a b c b = 0 := by unfold dep; rw [apt_self, tw_same1, tw_same3]; grind
theorem dep_c (a b c : Pl) : dep a b c c = 0 := by unfold dep; rw [apt_self, tw_same1, tw_same3]; grind
/-- within (1), on (0), outside (-1) -/
@[irreducible] def rg (a b c d : Pl) : Int := (tw a b c).sign * (dep a b c d).sign
theorem rg_rot (a b c d : Pl) : rg b c a d = rg a b c d := by unfold rg; rw [tw_rot, dep_rot]
theorem rg_swap (a b c d : Pl) : rg b a c d = rg a b c d := by unfold rg; rw [tw_swap, dep_swap, Int.sign_neg, Int.sign_neg, Int.neg_mul_neg]
end L3
namespace L3
/-- d spoils a, b, c -/
def Spo (a b c d : Pl) : Prop := rg a b c d = 1 ∨ (rg a b c d = 0 ∧ d ≠ a ∧ d ≠ b ∧ d ≠ c ∧ ((bef d a ∧ bef d b ∧ bef d c) ∨ (bef a b ∧ bef a c ∧ bef a d ∧ (tw b c d).sign ≠ (tw b c a).sign) ∨ (bef b a ∧ bef b c ∧ bef b d ∧ (tw c a d).sign ≠ (tw c a b).sign) ∨ (bef c a ∧ bef c b ∧ bef c d ∧ (tw a b d).sign ≠ (tw a b c).sign)))
instance (a b c d : Pl) : Decidable (Spo a b c d) := inferInstanceAs (Decidable (_ ∨ _))
theorem Spo_rot (a b c d : Pl) : Spo b c a d ↔ Spo a b c d := by
  unfold Spo
  rw [rg_rot]
  generalize ((tw b c d).sign ≠ (tw b c a).sign) = P1
  generalize ((tw c a d).sign ≠ (tw c a b).sign) = P2
  generalize ((tw a b d).sign ≠ (tw a b c).sign) = P3
  grind
theorem neg_sign_ne (i j : Int) : ((-i).sign ≠ (-j).sign) ↔ (i.sign ≠ j.sign) := by
  rw [Int.sign_neg, Int.sign_neg]; omega
theorem Spo_swap (a b c d : Pl) : Spo b a c d ↔ Spo a b c d := by
  unfold Spo
  rw [rg_swap, tw_swap c a d, tw_swap c a b, tw_swap b c d, tw_swap b c a, tw_swap a b d, tw_swap a b c, neg_sign_ne, neg_sign_ne, neg_sign_ne]
  generalize ((tw b c d).sign ≠ (tw b c a).sign) = P1
  generalize ((tw c a d).sign ≠ (tw c a b).sign) = P2
  generalize ((tw a b d).sign ≠ (tw a b c).sign) = P3
  grind
theorem sign_cases (i : Int) : (i < 0 ∧ i.sign = -1) ∨ (i = 0 ∧ i.sign = 0) ∨ (0 < i ∧ i.sign = 1) := by
  rcases Int.lt_trichotomy i 0 with h | h | h
  · exact .inl ⟨h, Int.sign_eq_neg_one_of_neg h⟩
  · exact .inr (.inl ⟨h, by rw [h]; rfl⟩)
  · exact .inr (.inr ⟨h, Int.sign_eq_one_of_pos h⟩)
/-- three weights and three vectors: no two weights below 0 beside a greater one -/
theorem jensen {al be ga px py qx qy rx ry : Int} (h1 : al * px + be * qx + ga * rx = 0) (h2 : al * py + be * qy + ga * ry = 0) (h3 : al * (px * px + py * py) + be * (qx * qx + qy * qy) + ga * (rx * rx + ry * ry) = 0) (ha : al ≤ 0) (hg : ga < 0) (hT : 0 < al + be + ga) (hq : 0 < qx * qx + qy * qy) : False := by
  have hb : 0 < be := by omega
  have key : be * (qx * qx + qy * qy) * (-al - ga - be) = al * ga * ((px - rx) * (px - rx) + (py - ry) * (py - ry)) := by
    have e1 : be * qx = -al * px - ga * rx := by grind
    have e2 : be * qy = -al * py - ga * ry := by grind
    have e3 : be * (qx * qx + qy * qy) = -al * (px * px + py * py) - ga * (rx * rx + ry * ry) := by grind
    have e4 : be * be * (qx * qx + qy * qy) = (be * qx) * (be * qx) + (be * qy) * (be * qy) := by grind
    have e5 : be * (qx * qx + qy * qy) * (-al - ga - be) = (-al - ga) * (be * (qx * qx + qy * qy)) - be * be * (qx * qx + qy * qy) := by grind
    rw [e5, e4, e1, e2, e3]
    grind
  have hag : 0 ≤ al * ga := Int.mul_nonneg_of_nonpos_of_nonpos ha (by omega)
  have hnn : 0 ≤ (px - rx) * (px - rx) + (py - ry) * (py - ry) := by
    have := mul_self_nn (px - rx)
    have := mul_self_nn (py - ry)
    omega
  have hr : 0 ≤ al * ga * ((px - rx) * (px - rx) + (py - ry) * (py - ry)) := Int.mul_nonneg hag hnn
  have hl : be * (qx * qx + qy * qy) * (-al - ga - be) < 0 := Int.mul_neg_of_pos_of_neg (Int.mul_pos hb hq) (by omega)
  omega
theorem apt_pos {p q : Pl} (h : p ≠ q) : 0 < apt p q := by
  unfold apt
  have h1 := mul_self_nn (q.x - p.x)
  have h2 := mul_self_nn (q.y - p.y)
  rcases Int.lt_trichotomy ((q.x - p.x) * (q.x - p.x) + (q.y - p.y) * (q.y - p.y)) 0 with z | z | z
  · omega
  · exfalso
    have e1 : (q.x - p.x) * (q.x - p.x) = 0 := by omega
    have e2 : (q.y - p.y) * (q.y - p.y) = 0 := by omega
    have f1 : q.x - p.x = 0 := by rcases Int.mul_eq_zero.mp e1 with z | z <;> exact z
    have f2 : q.y - p.y = 0 := by rcases Int.mul_eq_zero.mp e2 with z | z <;> exact z
    exact h (by cases p; cases q; simp only at f1 f2; congr 1 <;> omega)
  · exact z
/-- four on a ring: the weights at s -/
theorem weights (p q r s : Pl) : tw s q r * (p.x - s.x) + tw s r p * (q.x - s.x) + tw s p q * (r.x - s.x) = 0 ∧ tw s q r * (p.y - s.y) + tw s r p * (q.y - s.y) + tw s p q * (r.y - s.y) = 0 ∧ tw s q r + tw s r p + tw s p q = tw p q r := by
  unfold tw
  refine ⟨?_, ?_, ?_⟩ <;> grind
theorem dep_weights {p q r s : Pl} (h : dep p q r s = 0) : tw s q r * ((p.x - s.x) * (p.x - s.x) + (p.y - s.y) * (p.y - s.y)) + tw s r p * ((q.x - s.x) * (q.x - s.x) + (q.y - s.y) * (q.y - s.y)) + tw s p q * ((r.x - s.x) * (r.x - s.x) + (r.y - s.y) * (r.y - s.y)) = 0 := by
  unfold dep apt at h
  grind
theorem apt_def (p q : Pl) : apt p q = (q.x - p.x) * (q.x - p.x) + (q.y - p.y) * (q.y - p.y) := by unfold apt; rfl
/-- four on a ring, s beyond p q: the other two sides have it at their left -/
theorem beyond {p q r s : Pl} (h : dep p q r s = 0) (hr : 0 < tw p q r) (hs : tw p q s < 0) : 0 < tw q r s ∧ 0 < tw r p s := by
  obtain ⟨w1, w2, w3⟩ := weights p q r s
  have w4 := dep_weights h
  have hs' : tw s p q < 0 := by rw [← tw_rot s p q]; exact hs
  have nq : s ≠ q := fun e => by subst e; rw [tw_same2] at hs; omega
  have np : s ≠ p := fun e => by subst e; rw [tw_same3] at hs; omega
  have aq := apt_pos nq
  have ap := apt_pos np
  rw [apt_def] at aq ap
  constructor
  · rw [tw_rot s q r]
    rcases Int.lt_or_le 0 (tw s q r) with z | z
    · exact z
    · exact (jensen w1 w2 w4 z hs' (by omega) aq).elim
  · rw [tw_rot s r p]
    rcases Int.lt_or_le 0 (tw s r p) with z | z
    · exact z
    · exact (jensen (al := tw s r p) (be := tw s q r) (ga := tw s p q) (px := q.x - s.x) (py := q.y - s.y) (qx := p.x - s.x) (qy := p.y - s.y) (rx := r.x - s.x) (ry := r.y - s.y) (by omega) (by omega) (by omega) z hs' (by omega) ap).elim
theorem rg_zero {a b c d : Pl} (h : dep a b c d = 0) : rg a b c d = 0 := by unfold rg; rw [h]; simp
/-- a tie across p q: spoilt just where the least of the four is r or s -/
theorem tie_pos {p q r s : Pl} (h : dep p q r s = 0) (hr : 0 < tw p q r) (hs : tw p q s < 0) : Spo p q r s ↔ ((bef r p ∧ bef r q) ∨ (bef s p ∧ bef s q)) := by
  obtain ⟨k1, k2⟩ := beyond h hr hs
  have r1 : 0 < tw q r p := by rw [tw_rot]; exact hr
  have r2 : 0 < tw r p q := by rw [tw_rot, tw_rot]; exact hr
  have s1 : (tw q r s).sign = (tw q r p).sign := by rw [Int.sign_eq_one_of_pos k1, Int.sign_eq_one_of_pos r1]
  have s2 : (tw r p s).sign = (tw r p q).sign := by rw [Int.sign_eq_one_of_pos k2, Int.sign_eq_one_of_pos r2]
  have s3 : (tw p q s).sign ≠ (tw p q r).sign := by rw [Int.sign_eq_one_of_pos hr, Int.sign_eq_neg_one_of_neg hs]; decide
  have nq : s ≠ q := fun e => by subst e; rw [tw_same2] at hs; omega
  have np : s ≠ p := fun e => by subst e; rw [tw_same3] at hs; omega
  have nr : s ≠ r := fun e => by subst e; omega
  unfold Spo
  rw [rg_zero h, s1, s2]
  simp only [ne_eq, not_true_eq_false, and_false, false_or, s3, not_false_eq_true, and_true, np, nq, nr, true_and]
  constructor
  · rintro (z | z | z)
    · cases z
    · exact .inr ⟨z.1, z.2.1⟩
    · exact .inl ⟨z.1, z.2.1⟩
  · intro z
    right
    rcases bef_tri r s with t | t | t
    · right
      rcases z with z | z
      · exact ⟨z.1, z.2, t⟩
      · exact ⟨bef_trans t z.1, bef_trans t z.2, t⟩
    · exact absurd t.symm nr
    · left
      rcases z with z | z
      · exact ⟨bef_trans t z.1, bef_trans t z.2, t⟩
      · exact ⟨z.1, z.2, t⟩
def Unl (p q r s : Pl) : Prop := (0 < tw p q r ∧ tw p q s < 0) ∨ (tw p q r < 0 ∧ 0 < tw p q s)
theorem tie {p q r s : Pl} (h : dep p q r s = 0) (hu : Unl p q r s) : Spo p q r s ↔ ((bef r p ∧ bef r q) ∨ (bef s p ∧ bef s q)) := by
  rcases hu with ⟨h1, h2⟩ | ⟨h1, h2⟩
  · exact tie_pos h h1 h2
  · rw [← Spo_swap]
    have := tie_pos (p := q) (q := p) (r := r) (s := s) (by rw [dep_swap, h]; rfl) (by rw [tw_swap]; omega) (by rw [tw_swap]; omega)
    rw [this]
    grind
theorem rg_ne {a b c d : Pl} (ht : tw a b c ≠ 0) (h : dep a b c d ≠ 0) : rg a b c d ≠ 0 := by
  unfold rg
  rcases sign_cases (tw a b c) with ⟨u, e⟩ | ⟨u, e⟩ | ⟨u, e⟩ <;> rcases sign_cases (dep a b c d) with ⟨v, f⟩ | ⟨v, f⟩ | ⟨v, f⟩ <;> rw [e, f] <;> first | decide | omega
theorem Spo_iff {a b c d : Pl} (ht : tw a b c ≠ 0) (h : dep a b c d ≠ 0) : Spo a b c d ↔ rg a b c d = 1 := by
  constructor
  · rintro (z | ⟨z, _⟩)
    · exact z
    · exact absurd z (rg_ne ht h)
  · exact .inl
theorem Unl.ne {p q r s : Pl} (h : Unl p q r s) : tw p q r ≠ 0 ∧ tw p q s ≠ 0 := by unfold Unl at h; omega
theorem Unl.swap {p q r s : Pl} (h : Unl p q r s) : Unl p q s r := by unfold Unl at *; omega
theorem ne_xy {p q : Pl} (h : p ≠ q) : ¬ (p.x = q.x ∧ p.y = q.y) := fun ⟨a, b⟩ => h (by cases p; cases q; simp only at a b; rw [a, b])
/-- over the side p q: s spoils p q r just where r spoils p q s -/
theorem cut_same {p q r s : Pl} (h : Unl p q r s) : Spo p q s r ↔ Spo p q r s := by
  by_cases hd : dep p q r s = 0
  · rw [tie hd h, tie (by rw [dep_last, hd]; rfl) h.swap]
    exact Or.comm
  · have hd' : dep p q s r ≠ 0 := by rw [dep_last]; omega
    rw [Spo_iff h.ne.1 hd, Spo_iff h.ne.2 hd']
    unfold rg
    rw [dep_last p q r s, Int.sign_neg]
    rcases h with ⟨h1, h2⟩ | ⟨h1, h2⟩
    · rw [Int.sign_eq_one_of_pos h1, Int.sign_eq_neg_one_of_neg h2]; omega
    · rw [Int.sign_eq_one_of_pos h2, Int.sign_eq_neg_one_of_neg h1]; omega
theorem dep_pairs (p q r s : Pl) : dep r s p q = dep p q r s := by unfold dep apt tw; grind
theorem quad (p q r s : Pl) : tw r s q - tw r s p = tw p q r - tw p q s := by unfold tw; grind
/-- the two cuts of four: just one is spoilt -/
theorem cut_other {p q r s : Pl} (h : Unl p q r s) (h' : Unl r s p q) : Spo r s p q ↔ ¬ Spo p q r s := by
  have hq := quad p q r s
  by_cases hd : dep p q r s = 0
  · rw [tie hd h, tie (by rw [dep_pairs, hd]) h']
    have n1 : p ≠ r := fun e => by subst e; have := h.ne.1; rw [tw_same3] at this; exact this rfl
    have n2 : p ≠ s := fun e => by subst e; have := h.ne.2; rw [tw_same3] at this; exact this rfl
    have n3 : q ≠ r := fun e => by subst e; have := h.ne.1; rw [tw_same2] at this; exact this rfl
    have n4 : q ≠ s := fun e => by subst e; have := h.ne.2; rw [tw_same2] at this; exact this rfl
    have n1 := ne_xy n1
    have n2 := ne_xy n2
    have n3 := ne_xy n3
    have n4 := ne_xy n4
    unfold bef
    omega
  · have hd' : dep r s p q ≠ 0 := by rw [dep_pairs]; exact hd
    rw [Spo_iff h.ne.1 hd, Spo_iff h'.ne.1 hd']
    unfold rg
    rw [dep_pairs p q r s]
    have key : (tw r s p).sign = -(tw p q r).sign := by
      rcases h with ⟨h1, h2⟩ | ⟨h1, h2⟩ <;> rcases h' with ⟨h3, h4⟩ | ⟨h3, h4⟩
      · omega
      · rw [Int.sign_eq_one_of_pos h1, Int.sign_eq_neg_one_of_neg h3]
      · rw [Int.sign_eq_one_of_pos h3, Int.sign_eq_neg_one_of_neg h1]; rfl
      · omega
    rw [key]
    have ht := h.ne.1
    rcases sign_cases (tw p q r) with ⟨u, e⟩ | ⟨u, e⟩ | ⟨u, e⟩ <;> rcases sign_cases (dep p q r s) with ⟨v, f⟩ | ⟨v, f⟩ | ⟨v, f⟩ <;> rw [e, f] <;> first | decide | omega
/-! ### over a base -/
def dt (a b x : Pl) : Int := (x.x - a.x) * (x.x - b.x) + (x.y - a.y) * (x.y - b.y)
theorem dep_base (a b x y : Pl) : dep a b x y = dt a b x * tw a b y - dt a b y * tw a b x := by unfold dep apt tw dt; grind
theorem plucker (b e x y z : Pl) : tw b x z * tw b e y = tw b x y * tw b e z + tw b y z * tw b e x := by unfold tw; grind
/-- two at the left of a base, on one ring with it -/
theorem arc {a b x y : Pl} (hx : 0 < tw a b x) (hy : 0 < tw a b y) (hd : dep a b x y = 0) (hn : x ≠ y) : (0 < tw b x y ∧ 0 < tw a x y) ∨ (tw b x y < 0 ∧ tw a x y < 0) := by
  obtain ⟨w1, w2, w3⟩ := weights a b x y
  have w4 := dep_weights hd
  have hg : 0 < tw y a b := by rw [← tw_rot y a b]; exact hy
  have e1 : tw y b x = tw b x y := (tw_rot y b x).symm
  have e2 : tw y x a = -tw a x y := by rw [tw_swap2 y a x, tw_rot y a x]
  have hR := apt_pos hn.symm
  rw [apt_def] at hR
  have nP := mul_self_nn (a.x - y.x)
  have nP' := mul_self_nn (a.y - y.y)
  have nQ := mul_self_nn (b.x - y.x)
  have nQ' := mul_self_nn (b.y - y.y)
  have k1 : tw y x a < 0 → 0 < tw y b x := fun hb => by
    rcases Int.lt_or_le 0 (tw y b x) with z | z
    · exact z
    · exact (jensen (al := tw y b x) (be := tw y a b) (ga := tw y x a) (px := a.x - y.x) (py := a.y - y.y) (qx := x.x - y.x) (qy := x.y - y.y) (rx := b.x - y.x) (ry := b.y - y.y) (by omega) (by omega) (by omega) z hb (by omega) hR).elim
  have k2 : tw y b x < 0 → 0 < tw y x a := fun hb => by
    rcases Int.lt_or_le 0 (tw y x a) with z | z
    · exact z
    · exact (jensen (al := tw y x a) (be := tw y a b) (ga := tw y b x) (px := b.x - y.x) (py := b.y - y.y) (qx := x.x - y.x) (qy := x.y - y.y) (rx := a.x - y.x) (ry := a.y - y.y) (by omega) (by omega) (by omega) z hb (by omega) hR).elim
  have k3 : tw y b x < 0 ∨ tw y x a < 0 := by
    rcases Int.lt_or_le (tw y b x) 0 with z | z
    · exact .inl z
    · rcases Int.lt_or_le (tw y x a) 0 with z' | z'
      · exact .inr z'
      · exfalso
        have m1 := Int.mul_nonneg z (show 0 ≤ (a.x - y.x) * (a.x - y.x) + (a.y - y.y) * (a.y - y.y) by omega)
        have m2 := Int.mul_nonneg z' (show 0 ≤ (b.x - y.x) * (b.x - y.x) + (b.y - y.y) * (b.y - y.y) by omega)
        have m3 := Int.mul_pos hg hR
        omega
  omega
theorem Spo_mid (a b c d : Pl) : Spo a c b d ↔ Spo a b c d := by
  rw [← Spo_rot a c b d, Spo_swap, ← Spo_rot, Spo_rot, Spo_rot]
/-- the ring's sign over a base, c at its left -/
theorem rg_left {a b c d : Pl} (h : 0 < tw a b c) : rg a b c d = (dep a b c d).sign := by unfold rg; rw [Int.sign_eq_one_of_pos h, Int.one_mul]
theorem base_xor {a b x y : Pl} (hx : 0 < tw a b x) (hy : 0 < tw a b y) (hn : x ≠ y) : Spo a b y x ↔ ¬ Spo a b x y := by
  have hl := dep_last a b x y
  by_cases hd : dep a b x y = 0
  · rcases arc hx hy hd hn with ⟨h1, h2⟩ | ⟨h1, h2⟩
    · have u1 : Unl a x b y := .inr ⟨by rw [tw_swap2]; omega, h2⟩
      have u2 : Unl b y a x := .inl ⟨by rw [tw_rot]; exact hy, by rw [tw_swap2]; omega⟩
      have := cut_other u1 u2
      rw [← Spo_rot a b y x, ← Spo_mid a b x y]
      exact this
    · have u1 : Unl a y b x := .inr ⟨by rw [tw_swap2]; omega, by rw [tw_swap2]; omega⟩
      have u2 : Unl b x a y := .inl ⟨by rw [tw_rot]; exact hx, h1⟩
      have := cut_other u1 u2
      rw [← Spo_mid a b y x, ← Spo_rot a b x y, this]
      exact Decidable.not_not.symm
  · rw [Spo_iff (by omega) hd, Spo_iff (by omega) (by rw [hl]; omega), rg_left hx, rg_left hy, hl, Int.sign_neg]
    rcases sign_cases (dep a b x y) with ⟨v, f⟩ | ⟨v, f⟩ | ⟨v, f⟩ <;> rw [f] <;> first | decide | omega
theorem Spo_dep {a b x y : Pl} (hx : 0 < tw a b x) (h : Spo a b x y) : 0 ≤ dep a b x y ∧ x ≠ y := by
  unfold Spo at h
  rw [rg_left hx] at h
  rcases sign_cases (dep a b x y) with ⟨v, f⟩ | ⟨v, f⟩ | ⟨v, f⟩ <;> rw [f] at h
  · omega
  · refine ⟨by omega, ?_⟩
    rcases h with h | h
    · cases h
    · exact fun e => h.2.2.2.1 e.symm
  · refine ⟨by omega, fun e => ?_⟩
    subst e
    rw [dep_c] at v
    omega
theorem dep_three (a b x y z : Pl) : dep a b x z * tw a b y = dep a b x y * tw a b z + dep a b y z * tw a b x := by
  rw [dep_base, dep_base, dep_base]; grind
theorem Spo_of_pos {a b x y : Pl} (hx : 0 < tw a b x) (h : 0 < dep a b x y) : Spo a b x y := by
  left; rw [rg_left hx, Int.sign_eq_one_of_pos h]
theorem dep_mid (a b c d : Pl) : dep a c b d = -dep a b c d := by rw [dep_rot b a c d, dep_swap a b c d]
/-- a is the least of the four, on one ring -/
theorem arcA {a b x y : Pl} (hx : 0 < tw a b x) (hy : 0 < tw a b y) (hd : dep a b x y = 0) (hn : x ≠ y) (m1 : bef a b) (m3 : bef a y) (h : Spo a b x y) : tw b x y < 0 := by
  rcases arc hx hy hd hn with ⟨h1, h2⟩ | ⟨h1, h2⟩
  · exfalso
    have u1 : Unl a x b y := .inr ⟨by rw [tw_swap2]; omega, h2⟩
    rw [← Spo_mid, tie (by rw [dep_mid, hd]; rfl) u1] at h
    have := bef_asymm m1
    have := bef_asymm m3
    grind
  · exact h1
theorem arcB {a b x y : Pl} (hx : 0 < tw a b x) (hy : 0 < tw a b y) (hd : dep a b x y = 0) (hn : x ≠ y) (m1 : bef b a) (m3 : bef b y) (h : Spo a b x y) : 0 < tw b x y := by
  rcases arc hx hy hd hn with ⟨h1, h2⟩ | ⟨h1, h2⟩
  · exact h1
  · exfalso
    have u1 : Unl b x a y := .inl ⟨by rw [tw_rot]; exact hx, h1⟩
    rw [← Spo_rot, tie (by rw [dep_rot, hd]) u1] at h
    have := bef_asymm m1
    have := bef_asymm m3
    grind
theorem low_spo {a b u v : Pl} (h : dep a b u v = 0) (m1 : bef v a) (m2 : bef v b) (m3 : bef v u) : Spo a b u v := by
  right
  exact ⟨rg_zero h, bef_ne m1, bef_ne m2, bef_ne m3, .inl ⟨m1, m2, m3⟩⟩
theorem bef_or {p q : Pl} (h : p ≠ q) : bef p q ∨ bef q p := by
  rcases bef_tri p q with z | z | z
  · exact .inl z
  · exact absurd z h
  · exact .inr z
theorem least4 {a b x y z : Pl} (h : bef a b) (nx : x ≠ a) (ny : y ≠ a) (nz : z ≠ a) (n1 : x ≠ y) (n2 : y ≠ z) (n3 : z ≠ x) : (bef x a ∧ bef x b ∧ bef x y) ∨ (bef y a ∧ bef y b ∧ bef y z) ∨ (bef z a ∧ bef z b ∧ bef z x) ∨ (bef a x ∧ bef a y ∧ bef a z) := by
  rcases bef_or nx with t | t
  · rcases bef_or n1 with u | u
    · exact .inl ⟨t, bef_trans t h, u⟩
    · have ya := bef_trans u t
      rcases bef_or n2 with v | v
      · exact .inr (.inl ⟨ya, bef_trans ya h, v⟩)
      · have za := bef_trans v ya
        exact .inr (.inr (.inl ⟨za, bef_trans za h, bef_trans v u⟩))
  · rcases bef_or ny with u | u
    · rcases bef_or n2 with v | v
      · exact .inr (.inl ⟨u, bef_trans u h, v⟩)
      · have za := bef_trans v u
        exact .inr (.inr (.inl ⟨za, bef_trans za h, bef_trans za t⟩))
    · rcases bef_or nz with v | v
      · exact .inr (.inr (.inl ⟨v, bef_trans v h, bef_trans v t⟩))
      · exact .inr (.inr (.inr ⟨t, u, v⟩))
theorem base_trans {a b x y z : Pl} (hx : 0 < tw a b x) (hy : 0 < tw a b y) (hz : 0 < tw a b z) (h1 : Spo a b x y) (h2 : Spo a b y z) : Spo a b x z := by
  obtain ⟨d1, n1⟩ := Spo_dep hx h1
  obtain ⟨d2, n2⟩ := Spo_dep hy h2
  have h3 := dep_three a b x y z
  by_cases hp : 0 < dep a b x y ∨ 0 < dep a b y z
  · apply Spo_of_pos hx
    have a1 := Int.mul_nonneg d1 (Int.le_of_lt hz)
    have a2 := Int.mul_nonneg d2 (Int.le_of_lt hx)
    have a3 : 0 < dep a b x z * tw a b y := by
      rcases hp with hp | hp
      · have := Int.mul_pos hp hz; omega
      · have := Int.mul_pos hp hx; omega
    rw [Int.mul_comm] at a3
    exact (pos_mul_iff hy).1.mp a3
  · have e1 : dep a b x y = 0 := by omega
    have e2 : dep a b y z = 0 := by omega
    have e3 : dep a b x z = 0 := by
      rw [e1, e2] at h3
      have : tw a b y * dep a b x z = 0 := by rw [Int.mul_comm, h3]; simp
      exact (pos_mul_iff hy).2.2.mp this
    by_cases nxz : x = z
    · subst nxz
      exact absurd h1 ((base_xor hx hy n1).mp h2)
    apply Decidable.byContradiction
    intro hno
    have h4 := (base_xor hx hz nxz).mpr hno
    have nab : a ≠ b := fun e => by subst e; rw [tw_same1] at hx; omega
    have nxa : x ≠ a := fun e => by subst e; rw [tw_same3] at hx; omega
    have nxb : x ≠ b := fun e => by subst e; rw [tw_same2] at hx; omega
    have nya : y ≠ a := fun e => by subst e; rw [tw_same3] at hy; omega
    have nyb : y ≠ b := fun e => by subst e; rw [tw_same2] at hy; omega
    have nza : z ≠ a := fun e => by subst e; rw [tw_same3] at hz; omega
    have nzb : z ≠ b := fun e => by subst e; rw [tw_same2] at hz; omega
    have hm : (bef x a ∧ bef x b ∧ bef x y) ∨ (bef y a ∧ bef y b ∧ bef y z) ∨ (bef z a ∧ bef z b ∧ bef z x) ∨ (bef a b ∧ bef a x ∧ bef a y ∧ bef a z) ∨ (bef b a ∧ bef b x ∧ bef b y ∧ bef b z) := by
      rcases bef_or nab with t | t
      · rcases least4 t nxa nya nza n1 n2 (Ne.symm nxz) with ⟨u, v, w⟩ | ⟨u, v, w⟩ | ⟨u, v, w⟩ | ⟨u, v, w⟩
        · exact .inl ⟨u, v, w⟩
        · exact .inr (.inl ⟨u, v, w⟩)
        · exact .inr (.inr (.inl ⟨u, v, w⟩))
        · exact .inr (.inr (.inr (.inl ⟨t, u, v, w⟩)))
      · rcases least4 t nxb nyb nzb n1 n2 (Ne.symm nxz) with ⟨u, v, w⟩ | ⟨u, v, w⟩ | ⟨u, v, w⟩ | ⟨u, v, w⟩
        · exact .inl ⟨v, u, w⟩
        · exact .inr (.inl ⟨v, u, w⟩)
        · exact .inr (.inr (.inl ⟨v, u, w⟩))
        · exact .inr (.inr (.inr (.inr ⟨t, u, v, w⟩)))
    have e3' : dep a b z x = 0 := by rw [dep_last, e3]; rfl
    rcases hm with ⟨m1, m2, m3⟩ | ⟨m1, m2, m3⟩ | ⟨m1, m2, m3⟩ | ⟨m1, m2, m3, m4⟩ | ⟨m1, m2, m3, m4⟩
    · exact (base_xor hx hy n1).mp (low_spo (by rw [dep_last, e1]; rfl) m1 m2 m3) h1
    · exact (base_xor hy hz n2).mp (low_spo (by rw [dep_last, e2]; rfl) m1 m2 m3) h2
    · exact hno (low_spo e3 m1 m2 m3)
    · have k1 := arcA hx hy e1 n1 m1 m3 h1
      have k2 := arcA hy hz e2 n2 m1 m4 h2
      have k3 := arcA hz hx e3' (Ne.symm nxz) m1 m2 h4
      have pl := plucker b a x y z
      rw [tw_swap a b y, tw_swap a b z, tw_swap a b x, tw_swap2 b z x] at pl
      have p1 := Int.mul_pos (show 0 < -tw b z x by omega) hy
      have p2 := Int.mul_pos (show 0 < -tw b x y by omega) hz
      have p3 := Int.mul_pos (show 0 < -tw b y z by omega) hx
      grind
    · have k1 := arcB hx hy e1 n1 m1 m3 h1
      have k2 := arcB hy hz e2 n2 m1 m4 h2
      have k3 := arcB hz hx e3' (Ne.symm nxz) m1 m2 h4
      have pl := plucker b a x y z
      rw [tw_swap a b y, tw_swap a b z, tw_swap a b x, tw_swap2 b z x] at pl
      have p1 := Int.mul_pos k3 hy
      have p2 := Int.mul_pos k1 hz
      have p3 := Int.mul_pos k2 hx
      grind
end L3
namespace L3
/-! ### the middle -/
@[irreducible] def mdR (a b c : Pl) : Int := (c.y - a.y) * apt a b - (b.y - a.y) * apt a c
@[irreducible] def mdU (a b c : Pl) : Int := (b.x - a.x) * apt a c - (c.x - a.x) * apt a b
@[irreducible] def mdX (a b c : Pl) : Int := a.x * (2 * tw a b c) + mdR a b c
@[irreducible] def mdY (a b c : Pl) : Int := a.y * (2 * tw a b c) + mdU a b c
@[irreducible] def mdF (a b c : Pl) : Pl := frac (mdX a b c) (2 * tw a b c)
@[irreducible] def mdG (a b c : Pl) : Pl := frac (mdY a b c) (2 * tw a b c)
theorem frac_neg (a b : Int) : frac (-a) (-b) = frac a b := by
  unfold frac
  rw [Int.gcd_neg, Int.neg_gcd, Int.sign_neg, Int.mul_neg, Int.neg_fdiv_neg, Int.neg_fdiv_neg]
theorem mdX_rot (a b c : Pl) : mdX b c a = mdX a b c := by unfold mdX mdR apt tw; grind
theorem mdY_rot (a b c : Pl) : mdY b c a = mdY a b c := by unfold mdY mdU apt tw; grind
theorem mdX_swap (a b c : Pl) : mdX b a c = -mdX a b c := by unfold mdX mdR apt tw; grind
theorem mdY_swap (a b c : Pl) : mdY b a c = -mdY a b c := by unfold mdY mdU apt tw; grind
theorem mdF_rot (a b c : Pl) : mdF b c a = mdF a b c := by unfold mdF; rw [mdX_rot, tw_rot]
theorem mdG_rot (a b c : Pl) : mdG b c a = mdG a b c := by unfold mdG; rw [mdY_rot, tw_rot]
theorem mdF_swap (a b c : Pl) : mdF b a c = mdF a b c := by unfold mdF; rw [mdX_swap, tw_swap, Int.mul_neg, frac_neg]
theorem mdG_swap (a b c : Pl) : mdG b a c = mdG a b c := by unfold mdG; rw [mdY_swap, tw_swap, Int.mul_neg, frac_neg]
theorem power (a b c d : Pl) : (d.x - a.x) * mdR a b c + (d.y - a.y) * mdU a b c - tw a b c * apt a d = dep a b c d := by unfold mdR mdU dep apt tw; grind
theorem mid_gap {a b c d f g : Pl} (hf : f.x * (2 * tw a b c) = mdX a b c * f.y) (hg : g.x * (2 * tw a b c) = mdY a b c * g.y) :
    (2 * tw a b c) * (2 * tw a b c) * (sqN a f g - sqN d f g) = (f.y * g.y) * (f.y * g.y) * 4 * (tw a b c * dep a b c d) := by
  rw [← power a b c d]
  unfold mdX at hf
  unfold mdY at hg
  unfold sqN apt
  generalize tw a b c = t at *
  generalize mdR a b c = R at *
  generalize mdU a b c = U at *
  have a1 : 2 * t * ((a.x * f.y - f.x) * g.y) = -R * (f.y * g.y) := by grind
  have a2 : 2 * t * ((a.y * g.y - g.x) * f.y) = -U * (f.y * g.y) := by grind
  have a3 : 2 * t * ((d.x * f.y - f.x) * g.y) = ((d.x - a.x) * (2 * t) - R) * (f.y * g.y) := by grind
  have a4 : 2 * t * ((d.y * g.y - g.x) * f.y) = ((d.y - a.y) * (2 * t) - U) * (f.y * g.y) := by grind
  generalize (a.x * f.y - f.x) * g.y = R1 at *
  generalize (a.y * g.y - g.x) * f.y = U1 at *
  generalize (d.x * f.y - f.x) * g.y = R2 at *
  generalize (d.y * g.y - g.x) * f.y = U2 at *
  generalize f.y * g.y = W at *
  have e : 2 * t * (2 * t) * (R1 * R1 + U1 * U1 - (R2 * R2 + U2 * U2)) = 2 * t * R1 * (2 * t * R1) + 2 * t * U1 * (2 * t * U1) - (2 * t * R2 * (2 * t * R2) + 2 * t * U2 * (2 * t * U2)) := by grind
  rw [e, a1, a2, a3, a4]
  grind
theorem md_spec {a b c : Pl} (h : tw a b c ≠ 0) : (0 < (mdF a b c).y ∧ 0 < (mdG a b c).y) ∧ ((mdF a b c).x * (2 * tw a b c) = mdX a b c * (mdF a b c).y ∧ (mdG a b c).x * (2 * tw a b c) = mdY a b c * (mdG a b c).y) ∧ Int.gcd (mdF a b c).x (mdF a b c).y = 1 ∧ Int.gcd (mdG a b c).x (mdG a b c).y = 1 := by
  unfold mdF mdG
  obtain ⟨p1, p2, p3, _, _⟩ := frac_spec (a := mdX a b c) (b := 2 * tw a b c) (by omega)
  obtain ⟨q1, q2, q3, _, _⟩ := frac_spec (a := mdY a b c) (b := 2 * tw a b c) (by omega)
  exact ⟨⟨p1, q1⟩, ⟨p2, q2⟩, p3, q3⟩
/-- how d lies to the ring, by the middle -/
theorem mid_sign {a b c d : Pl} (h : tw a b c ≠ 0) : (sqN a (mdF a b c) (mdG a b c) - sqN d (mdF a b c) (mdG a b c)).sign = rg a b c d := by
  obtain ⟨⟨f0, g0⟩, ⟨e1, e2⟩, _⟩ := md_spec h
  have key := mid_gap (d := d) e1 e2
  generalize mdF a b c = f at *
  generalize mdG a b c = g at *
  unfold rg
  rw [← Int.sign_mul]
  have h4 : 0 < 2 * tw a b c * (2 * tw a b c) := by
    have := mul_self_nn (2 * tw a b c)
    rcases Int.lt_or_eq_of_le this with z | z
    · exact z
    · exfalso
      rcases Int.mul_eq_zero.mp z.symm with z | z <;> omega
  have hW := Int.mul_pos f0 g0
  have hWW : 0 < f.y * g.y * (f.y * g.y) * 4 := by have := Int.mul_pos hW hW; omega
  have s1 := Int.sign_mul (2 * tw a b c * (2 * tw a b c)) (sqN a f g - sqN d f g)
  rw [key, Int.sign_mul, Int.sign_eq_one_of_pos h4, Int.sign_eq_one_of_pos hWW, Int.one_mul, Int.one_mul] at s1
  exact s1.symm
theorem mid_same {a b c : Pl} (h : tw a b c ≠ 0) : sqN b (mdF a b c) (mdG a b c) = sqN a (mdF a b c) (mdG a b c) ∧ sqN c (mdF a b c) (mdG a b c) = sqN a (mdF a b c) (mdG a b c) := by
  have k1 := mid_sign (d := b) h
  have k2 := mid_sign (d := c) h
  rw [rg_zero (dep_b a b c)] at k1
  rw [rg_zero (dep_c a b c)] at k2
  have := Int.sign_eq_zero_iff_zero.mp k1
  have := Int.sign_eq_zero_iff_zero.mp k2
  omega
end L3
namespace L3
/-! ### the side on which a point lies -/
@[irreducible] def sdN (a b f g : Pl) : Int := (b.x - a.x) * ((g.x - a.y * g.y) * f.y) - (b.y - a.y) * ((f.x - a.x * f.y) * g.y)
theorem sdN_swap (a b f g : Pl) : sdN b a f g = -sdN a b f g := by unfold sdN; grind
theorem sd_push {a b f g : Pl} {m s right up : Int} (hm : 0 < m) (f0 : 0 < f.y) (g0 : 0 < g.y) (hf : f.x * m = (a.x * m + (b.x - a.x) * s + right) * f.y) (hg : g.x * m = (a.y * m + (b.y - a.y) * s + up) * g.y) :
    (sdN a b f g).sign = ((b.x - a.x) * up - (b.y - a.y) * right).sign := by
  have key : m * sdN a b f g = f.y * g.y * ((b.x - a.x) * up - (b.y - a.y) * right) := by
    unfold sdN
    have a1 : m * (f.x - a.x * f.y) = ((b.x - a.x) * s + right) * f.y := by grind
    have a2 : m * (g.x - a.y * g.y) = ((b.y - a.y) * s + up) * g.y := by grind
    have e : m * ((b.x - a.x) * ((g.x - a.y * g.y) * f.y) - (b.y - a.y) * ((f.x - a.x * f.y) * g.y)) = (b.x - a.x) * (m * (g.x - a.y * g.y) * f.y) - (b.y - a.y) * (m * (f.x - a.x * f.y) * g.y) := by grind
    rw [e, a1, a2]
    grind
  have s1 := Int.sign_mul m (sdN a b f g)
  have s2 := Int.sign_mul (f.y * g.y) ((b.x - a.x) * up - (b.y - a.y) * right)
  rw [key, Int.sign_eq_one_of_pos hm, Int.one_mul] at s1
  rw [Int.sign_eq_one_of_pos (Int.mul_pos f0 g0), Int.one_mul] at s2
  rw [← s1, s2]
end L3

/-! sorted(..) of fewer than 64 values whose comparison is known where the sort runs. -/
namespace L3
open PySem PySem.Spec PyProof.Rows
section
variable {P : Program} {w : World} {A : Around} {E : Value → Shared → Prop} {s : Shared} {κ : KeyKind} {kd : SortKind} {z : Array Keyed} {t : SortSt}
/-- what the sort's own comparison tells, in the state s -/
structure Ask (P : Program) (w : World) (A : Around) (s : Shared) (κ : KeyKind) (kd : SortKind) : Prop where
  lt : ∀ (E : Value → Shared → Prop) (x y : Value) (a b : κ.α) (R : Bool → Shared → Prop), κ.keyOf x = some a → κ.keyOf y = some b → R (κ.blt a b) s → wpAny (model P w) A (keyLt' kd x y) R E s
/-- the sort under way -/
structure Mid (kd : SortKind) (z : Array Keyed) (t : SortSt) : Prop where
  pm : (arrOf t).Perm z
  kd : kindOf t = kd
  ok : failedOf t = none
  no : pendingOf t = #[]
theorem Mid.sz (m : Mid kd z t) : (arrOf t).size = z.size := m.pm.size_eq
theorem Mid.put (m : Mid kd z t) {y : Array Keyed} (h : y.Perm (arrOf t)) : Mid kd z (setArr t y) := ⟨h.trans m.pm, m.kd, m.ok, m.no⟩
theorem Mid.key (m : Mid kd z t) (hk : KeysOf κ z) {i : Nat} (hi : i < z.size) : ∃ x q, (arrOf t)[i]? = some (x, q) ∧ κ.keyOf x = some (KK κ (arrOf t) i) := by
  have hlt : i < (arrOf t).size := m.sz ▸ hi
  have e : (arrOf t)[i]? = some (arrOf t)[i] := getElem?_pos _ i hlt
  obtain ⟨a, ha⟩ := hk (arrOf t)[i] ((Array.perm_iff_toList_perm.mp m.pm).mem_iff.mp (by simp))
  refine ⟨(arrOf t)[i].1, (arrOf t)[i].2, e, ?_⟩
  have ek : KK κ (arrOf t) i = a := by unfold KK; rw [e]; simp only [ha, Option.getD_some]
  rw [ek]; exact ha
theorem ask_at (hA : Ask P w A s κ kd) (m : Mid kd z t) (hk : KeysOf κ z) {i j : Nat} (hi : i < z.size) (hj : j < z.size) {R : Option Bool → SortSt → Prop}
    (h : R (some (κ.blt (KK κ (arrOf t) i) (KK κ (arrOf t) j))) t) : wpS (model P w) A E s (ltAt' i j) R t := by
  obtain ⟨x, p, e1, k1⟩ := m.key hk hi
  obtain ⟨y, q, e2, k2⟩ := m.key hk hj
  rw [ltAt'_eq]
  apply wpS_bind; apply wpS_get
  show wpS (model P w) A E s (elem' (arrOf t) i >>= fun u => elem' (arrOf t) j >>= fun v => lt' u v) R t
  rw [elem'_eq, elem'_eq, e1, e2]
  apply wpS_bind; apply wpS_pure
  apply wpS_bind; apply wpS_pure
  rw [lt'_eq]
  apply wpS_bind; apply wpS_get
  rw [m.kd]
  refine wpS_bind (wpS_lift (wpAny_attempt (hA.lt _ x y _ _ _ k1 k2 ⟨rfl, wpS_pure h⟩)))
/-- one more at the end of a rising stretch -/
theorem rise {y : Array Keyed} {n : Nat} (h : SortedToK κ y n) (hl : 1 ≤ n) (hn : κ.kle (KK κ y (n - 1)) (KK κ y n)) : SortedToK κ y (n + 1) := by
  intro i j hij hj
  rcases Nat.lt_or_ge j n with c | c
  · exact h i j hij c
  · obtain rfl : j = n := by omega
    rcases Nat.lt_or_ge i j with d | d
    · exact KeyOrd.kle_trans (h i (j - 1) (by omega) (by omega)) hn
    · obtain rfl : i = j := by omega
      exact KeyOrd.kle_refl _
theorem fall {y : Array Keyed} {n : Nat} (h : NonIncK κ y n) (hl : 1 ≤ n) (hn : κ.kle (KK κ y n) (KK κ y (n - 1))) : NonIncK κ y (n + 1) := by
  intro i j hij hj
  rcases Nat.lt_or_ge j n with c | c
  · exact h i j hij c
  · obtain rfl : j = n := by omega
    rcases Nat.lt_or_ge i j with d | d
    · exact KeyOrd.kle_trans hn (h i (j - 1) (by omega) (by omega))
    · obtain rfl : i = j := by omega
      exact KeyOrd.kle_refl _
theorem one_up (y : Array Keyed) : SortedToK κ y 1 := by
  intro i j hij hj
  obtain rfl : i = j := by omega
  exact KeyOrd.kle_refl _
theorem one_dn (y : Array Keyed) : NonIncK κ y 1 := by
  intro i j hij hj
  obtain rfl : i = j := by omega
  exact KeyOrd.kle_refl _
theorem run_asc (hA : Ask P w A s κ kd) (hk : KeysOf κ z) (m : Mid kd z t) {a e : Nat} (he : e ≤ z.size) (h1 : 1 ≤ a) (hae : a ≤ e) (up : SortedToK κ (arrOf t) a) {R : AscSt → SortSt → Prop}
    (h : ∀ n, a ≤ n → n ≤ e → SortedToK κ (arrOf t) n → (n < e → κ.klt (KK κ (arrOf t) n) (KK κ (arrOf t) (n - 1))) → R (none, n) t) : wpS (model P w) A E s (ascLoop a e) R t := by
  unfold ascLoop
  refine wpS_forRange (I := fun i b u => b = (none, i) ∧ u = t ∧ SortedToK κ (arrOf t) i) (fun i b u hi1 hi2 hI => ?_) (fun b u hI => ?_) ⟨rfl, rfl, up⟩
  · obtain ⟨rfl, rfl, hup⟩ := hI
    apply wpS_bind
    apply ask_at hA m hk (by show i < z.size; omega) (by show i - 1 < z.size; omega)
    show wpS (model P w) A E s (if κ.blt (KK κ (arrOf u) i) (KK κ (arrOf u) (i - 1)) = true then _ else _) _ u
    cases c : κ.blt (KK κ (arrOf u) i) (KK κ (arrOf u) (i - 1)) with
    | true => rw [if_pos rfl]; exact wpS_pure (h i hi1 (by omega) hup fun _ => c)
    | false => rw [if_neg Bool.false_ne_true]; exact wpS_pure ⟨rfl, rfl, rise hup (by omega) c⟩
  · obtain ⟨rfl, rfl, hup⟩ := hI
    have em : max a e = e := by omega
    rw [em] at hup ⊢
    exact h e hae (Nat.le_refl e) hup fun c => absurd c (Nat.lt_irrefl e)
theorem run_tail (hA : Ask P w A s κ kd) (hk : KeysOf κ z) (m : Mid kd z t) {n e : Nat} (he : e ≤ z.size) (h1 : 1 ≤ n) (hne : n ≤ e) (dn : NonIncK κ (arrOf t) n) {R : Option Nat → SortSt → Prop}
    (h : ∀ i u, Mid kd z u → 1 ≤ i → i ≤ e → SortedToK κ (arrOf u) i → R (some i) u) : wpS (model P w) A E s (tail3 n e) R t := by
  have hz : n ≤ (arrOf t).size := by have := m.sz; omega
  have m2 := m.put (mirror_perm (arrOf t) 0 n ((n - 0) / 2))
  unfold tail3
  apply wpS_bind
  apply wpS_reverse
  apply wpS_bind
  refine run_asc hA hk m2 he h1 hne (fun i j hij hj => ?_) fun i h2 h3 up _ => wpS_pure (h i _ m2 (by omega) h3 up)
  show κ.kle (KK κ (mirror (arrOf t) 0 n ((n - 0) / 2)) i) (KK κ (mirror (arrOf t) 0 n ((n - 0) / 2)) j)
  rw [KK_mirror hz i, KK_mirror hz j, if_pos ⟨Nat.zero_le i, by omega⟩, if_pos ⟨Nat.zero_le j, hj⟩]
  exact dn _ _ (by omega) (by omega)
/-- the last q + 1 of n are alike -/
def Flatq (κ : KeyKind) (y : Array Keyed) (n q : Nat) : Prop := q + 1 ≤ n ∧ ∀ i, n - (q + 1) ≤ i → i < n → KK κ y i = KK κ y (n - 1)
theorem flat0 {y : Array Keyed} {n : Nat} (h : 1 ≤ n) : Flatq κ y n 0 := by
  refine ⟨by omega, fun i h1 h2 => ?_⟩
  obtain rfl : i = n - 1 := by omega
  rfl
theorem run_desc (hA : Ask P w A s κ kd) (hk : KeysOf κ z) (m : Mid kd z t) {a e : Nat} (he : e ≤ z.size) (h1 : 1 ≤ a) (hae : a ≤ e) (dn : NonIncK κ (arrOf t) a) {R : DescSt → SortSt → Prop}
    (h : ∀ n q u, Mid kd z u → a ≤ n → n ≤ e → NonIncK κ (arrOf u) n → Flatq κ (arrOf u) n q → R (none, n, q) u) : wpS (model P w) A E s (descLoop a e) R t := by
  unfold descLoop
  refine wpS_forRange (I := fun i b u => Mid kd z u ∧ NonIncK κ (arrOf u) i ∧ ∃ q, Flatq κ (arrOf u) i q ∧ b = (none, i, q)) (fun i b u hi1 hi2 hI => ?_) (fun b u hI => ?_) ⟨m, dn, 0, flat0 h1, rfl⟩
  · obtain ⟨mu, hd, q, hq, rfl⟩ := hI
    have hz : i ≤ (arrOf u).size := by have := mu.sz; omega
    apply wpS_bind
    apply ask_at hA mu hk (by show i < z.size; omega) (by show i - 1 < z.size; omega)
    show wpS (model P w) A E s (if κ.blt (KK κ (arrOf u) i) (KK κ (arrOf u) (i - 1)) = true then _ else _) _ u
    cases c : κ.blt (KK κ (arrOf u) i) (KK κ (arrOf u) (i - 1)) with
    | true =>
      rw [if_pos rfl]
      have lower : NonIncK κ (arrOf u) (i + 1) := fall hd (by omega) (KeyOrd.kle_of_klt c)
      show wpS (model P w) A E s (if q > 0 then _ else _) _ u
      by_cases d : q > 0
      · rw [if_pos d]
        apply wpS_bind
        apply wpS_reverse
        have same := KK_mirror_equal (κ := κ) hz hq.2
        refine wpS_pure ⟨mu.put (mirror_perm _ _ _ _), fun x y hxy hy => ?_, 0, flat0 (by omega), rfl⟩
        show κ.kle (KK κ (mirror (arrOf u) (i - (q + 1)) i _) y) (KK κ (mirror (arrOf u) (i - (q + 1)) i _) x)
        rw [same, same]
        exact lower x y hxy hy
      · rw [if_neg d]
        exact wpS_pure ⟨mu, lower, 0, flat0 (by omega), rfl⟩
    | false =>
      rw [if_neg Bool.false_ne_true]
      apply wpS_bind
      apply ask_at hA mu hk (by show i - 1 < z.size; omega) (by show i < z.size; omega)
      show wpS (model P w) A E s (if κ.blt (KK κ (arrOf u) (i - 1)) (KK κ (arrOf u) i) = true then _ else _) _ u
      cases d : κ.blt (KK κ (arrOf u) (i - 1)) (KK κ (arrOf u) i) with
      | true => rw [if_pos rfl]; exact wpS_pure (h i q u mu hi1 (by omega) hd hq)
      | false =>
        rw [if_neg Bool.false_ne_true]
        have alike : KK κ (arrOf u) i = KK κ (arrOf u) (i - 1) := κ.total _ _ c d
        refine wpS_pure ⟨mu, fall hd (by omega) d, q + 1, ⟨by have := hq.1; omega, fun x h2 h3 => ?_⟩, rfl⟩
        rw [Nat.add_sub_cancel]
        rcases Nat.lt_or_ge x i with g | g
        · rw [alike]; exact hq.2 x (by omega) g
        · obtain rfl : x = i := by omega
          rfl
  · obtain ⟨mu, hd, q, hq, rfl⟩ := hI
    have em : max a e = e := by omega
    rw [em] at hd hq ⊢
    exact h e q u mu hae (Nat.le_refl e) hd hq
theorem run_part (hA : Ask P w A s κ kd) (hk : KeysOf κ z) (m : Mid kd z t) {n e : Nat} (he : e ≤ z.size) (hne : n + 1 ≤ e) (dn : NonIncK κ (arrOf t) (n + 1)) {R : Option Nat → SortSt → Prop}
    (h : ∀ i u, Mid kd z u → 1 ≤ i → i ≤ e → SortedToK κ (arrOf u) i → R (some i) u) : wpS (model P w) A E s (descPart n e) R t := by
  unfold descPart
  apply wpS_bind
  refine wpS_lift (wpAny_rule ⟨rfl, ?_⟩)
  apply wpS_bind
  refine run_desc hA hk m he (by omega) hne dn fun i q u mu h2 h3 hd hq => ?_
  have hz : i ≤ (arrOf u).size := by have := mu.sz; omega
  show wpS (model P w) A E s (if q > 0 then _ else _) R u
  by_cases d : q > 0
  · rw [if_pos d]
    apply wpS_bind
    apply wpS_reverse
    have same := KK_mirror_equal (κ := κ) hz hq.2
    refine run_tail hA hk (mu.put (mirror_perm _ _ _ _)) he (by omega) h3 (fun x y hxy hy => ?_) h
    show κ.kle (KK κ (mirror (arrOf u) (i - (q + 1)) i _) y) (KK κ (mirror (arrOf u) (i - (q + 1)) i _) x)
    rw [same, same]
    exact hd x y hxy hy
  · rw [if_neg d]
    exact run_tail hA hk mu he (by omega) h3 hd h
theorem run_count (hA : Ask P w A s κ kd) (hk : KeysOf κ z) (m : Mid kd z t) {e : Nat} (he : e ≤ z.size) (h1 : 1 ≤ e) {R : Option Nat → SortSt → Prop}
    (h : ∀ i u, Mid kd z u → 1 ≤ i → i ≤ e → SortedToK κ (arrOf u) i → R (some i) u) : wpS (model P w) A E s (countRun' 0 e) R t := by
  rw [countRun0_eq]
  apply wpS_bind
  refine run_asc hA hk m he (Nat.le_refl 1) h1 (one_up _) fun n h2 h3 up stop => ?_
  show wpS (model P w) A E s (if (n == e) = true then _ else _) R t
  by_cases c : n = e
  · rw [if_pos (beq_iff_eq.mpr c)]
    exact wpS_pure (h n t m h2 h3 up)
  · rw [if_neg fun q => c (beq_iff_eq.mp q)]
    have less := stop (by omega)
    by_cases d : n > 1
    · rw [if_pos d]
      apply wpS_bind
      apply ask_at hA m hk (by omega) (by show n - 1 < z.size; omega)
      show wpS (model P w) A E s (if κ.blt (KK κ (arrOf t) 0) (KK κ (arrOf t) (n - 1)) = true then _ else _) R t
      cases g : κ.blt (KK κ (arrOf t) 0) (KK κ (arrOf t) (n - 1)) with
      | true => rw [if_pos rfl]; exact wpS_pure (h n t m h2 h3 up)
      | false =>
        rw [if_neg Bool.false_ne_true]
        have hz : n ≤ (arrOf t).size := by have := m.sz; omega
        have one : ∀ i, i < n → KK κ (arrOf t) i = KK κ (arrOf t) (n - 1) := fun i hi =>
          KeyOrd.kle_antisymm (up i (n - 1) (by omega) (by omega)) (KeyOrd.kle_trans (show κ.kle (KK κ (arrOf t) (n - 1)) (KK κ (arrOf t) 0) from g) (up 0 i (Nat.zero_le i) hi))
        have same := KK_mirror_equal (κ := κ) hz (fun i (_ : 0 ≤ i) hi => one i hi)
        apply wpS_bind
        apply wpS_reverse
        refine run_part hA hk (m.put (mirror_perm _ _ _ _)) he (by omega) (fall (fun x y hxy hy => ?_) (by omega) ?_) h
        · show κ.kle (KK κ (mirror (arrOf t) 0 n _) y) (KK κ (mirror (arrOf t) 0 n _) x)
          rw [same, same, one x (by omega), one y hy]
          exact KeyOrd.kle_refl _
        · show κ.kle (KK κ (mirror (arrOf t) 0 n _) n) (KK κ (mirror (arrOf t) 0 n _) (n - 1))
          rw [same, same]
          exact KeyOrd.kle_of_klt less
    · rw [if_neg d]
      obtain rfl : n = 1 := by omega
      exact run_part hA hk m he (by omega) (fall (one_dn _) (Nat.le_refl 1) (KeyOrd.kle_of_klt less)) h
/-- where the next one belongs among those ahead -/
structure Cut (κ : KeyKind) (y : Array Keyed) (k l r : Nat) : Prop where
  lr : l ≤ r
  rk : r ≤ k
  lo : ∀ i, i < l → κ.kle (KK κ y i) (KK κ y k)
  hi : ∀ i, r ≤ i → i < k → κ.klt (KK κ y k) (KK κ y i)
theorem Cut.put {y : Array Keyed} {k l : Nat} (c : Cut κ y k l l) (hk : k < y.size) (up : SortedToK κ y k) : SortedToK κ (bubble y k (k - l)) (k + 1) := by
  have hl := c.rk
  have at' : ∀ i, KK κ (bubble y k (k - l)) i = if i = l then KK κ y k else if l < i ∧ i ≤ k then KK κ y (i - 1) else KK κ y i := fun i => by
    have := KK_bubble (κ := κ) hk (Nat.sub_le k l) i
    have e : k - (k - l) = l := by omega
    rw [e] at this
    exact this
  intro i j hij hj
  rw [at' i, at' j]
  by_cases i1 : i = l
  · rw [if_pos i1]
    by_cases j1 : j = l
    · rw [if_pos j1]; exact KeyOrd.kle_refl _
    · rw [if_neg j1, if_pos ⟨by omega, by omega⟩]
      exact KeyOrd.kle_of_klt (c.hi _ (by omega) (by omega))
  · rw [if_neg i1]
    by_cases i2 : l < i ∧ i ≤ k
    · rw [if_pos i2, if_neg (by omega), if_pos ⟨by omega, by omega⟩]
      exact up _ _ (by omega) (by omega)
    · rw [if_neg i2]
      by_cases j1 : j = l
      · rw [if_pos j1]; exact c.lo i (by omega)
      · rw [if_neg j1]
        by_cases j2 : l < j ∧ j ≤ k
        · rw [if_pos j2]; exact up _ _ (by omega) (by omega)
        · rw [if_neg j2]; exact up _ _ hij (by omega)
theorem run_bin (hA : Ask P w A s κ kd) (hk : KeysOf κ z) (m : Mid kd z t) {n o : Nat} (hn : n ≤ z.size) (ho : o ≤ n) (up : SortedToK κ (arrOf t) o) {R : Bool → SortSt → Prop}
    (h : ∀ u, Mid kd z u → SortedToK κ (arrOf u) n → R true u) : wpS (model P w) A E s (binarySort' 0 n o) R t := by
  rw [binarySort'_eq]
  simp only [Nat.zero_add]
  apply wpS_bind
  refine wpS_mono (wpS_forRange (I := fun k b u => b = (none, ()) ∧ Mid kd z u ∧ (k ≤ n → SortedToK κ (arrOf u) k) ∧ (n < k → SortedToK κ (arrOf u) n)) (Q := fun b u => b = (none, ()) ∧ Mid kd z u ∧ SortedToK κ (arrOf u) n)
    (fun k b u hk1 hk2 hI => ?_) (fun b u hI => ?_) ⟨rfl, m, fun c => ?_, fun c => ?_⟩) fun b u hI => ?_
  · obtain ⟨rfl, mu, up1, _⟩ := hI
    have upk := up1 (by omega)
    apply wpS_bind
    refine wpS_mono (wpS_forRange (I := fun x b v => v = u ∧ ∃ l r, b = (none, l, r) ∧ Cut κ (arrOf u) k l r ∧ r - l ≤ k - x) (Q := fun b v => v = u ∧ ∃ l, b = (none, l, l) ∧ Cut κ (arrOf u) k l l)
      (fun x b v _ hx hI => ?_) (fun b v hI => ?_) ⟨rfl, 0, k, rfl, ⟨Nat.zero_le k, Nat.le_refl k, fun i hi => absurd hi (Nat.not_lt_zero i), fun i h2 h3 => absurd h3 (Nat.not_lt.mpr h2)⟩, Nat.le_refl _⟩) fun b v hI => ?_
    · obtain ⟨rfl, l, r, rfl, c, hw⟩ := hI
      show wpS (model P w) A E s (if l ≥ r then _ else _) _ v
      by_cases d : l ≥ r
      · rw [if_pos d]
        obtain rfl : l = r := Nat.le_antisymm c.lr d
        exact wpS_pure ⟨rfl, l, rfl, c⟩
      · rw [if_neg d]
        have hrk := c.rk
        apply wpS_bind
        apply ask_at hA mu hk (by show k < z.size; omega) (by show (l + r) / 2 < z.size; omega)
        show wpS (model P w) A E s (if κ.blt (KK κ (arrOf v) k) (KK κ (arrOf v) ((l + r) / 2)) = true then _ else _) _ v
        cases g : κ.blt (KK κ (arrOf v) k) (KK κ (arrOf v) ((l + r) / 2)) with
        | true =>
          rw [if_pos rfl]
          exact wpS_pure ⟨rfl, l, (l + r) / 2, rfl, ⟨by omega, by omega, c.lo, fun i h2 h3 => KeyOrd.klt_of_klt_of_kle g (upk _ i h2 h3)⟩, by omega⟩
        | false =>
          rw [if_neg Bool.false_ne_true]
          exact wpS_pure ⟨rfl, (l + r) / 2 + 1, r, rfl, ⟨by omega, by omega, fun i h2 => KeyOrd.kle_trans (upk i _ (by omega) (by omega)) g, c.hi⟩, by omega⟩
    · obtain ⟨rfl, l, r, rfl, c, hw⟩ := hI
      have e : max 0 k = k := by omega
      rw [e] at hw
      obtain rfl : l = r := by have := c.lr; omega
      exact ⟨rfl, l, rfl, c⟩
    · obtain ⟨rfl, l, rfl, c⟩ := hI
      show wpS (model P w) A E s (moveDown' k l >>= fun _ => pure (ForInStep.yield (none, ()))) _ v
      rw [moveDown'_eq]
      apply wpS_bind
      apply wpS_modify
      have hz : k < (arrOf v).size := by have := mu.sz; omega
      exact wpS_pure ⟨rfl, mu.put (bubble_perm _ _ _), fun _ => c.put hz upk, fun q => by omega⟩
  · obtain ⟨rfl, mu, up1, up2⟩ := hI
    refine ⟨rfl, mu, ?_⟩
    rcases Nat.lt_or_ge n (max (max o 1) n) with c | c
    · exact up2 c
    · have e : max (max o 1) n = n := by omega
      rw [e] at up1
      exact up1 (Nat.le_refl n)
  · rcases Nat.eq_zero_or_pos o with q | q
    · have e : max o 1 = 1 := by omega
      rw [e]; exact one_up _
    · have e : max o 1 = o := by omega
      rw [e]; exact up
  · have e : n = 0 := by omega
    subst e
    exact fun i j _ hj => absurd hj (Nat.not_lt_zero j)
  · obtain ⟨rfl, mu, up'⟩ := hI
    exact wpS_pure (h u mu up')
/-- the sort at its end -/
structure Fin3 (κ : KeyKind) (z : Array Keyed) (t : SortSt) : Prop where
  pm : (arrOf t).Perm z
  ok : failedOf t = none
  one : pendingOf t = #[(0, z.size, 0)]
  up : SortedToK κ (arrOf t) z.size
theorem Mid.fin (m : Mid kd z t) (up : SortedToK κ (arrOf t) z.size) : Fin3 κ z (setPending t ((pendingOf t).push (0, z.size, 0))) :=
  ⟨m.pm, m.ok, by show (pendingOf t).push (0, z.size, 0) = #[(0, z.size, 0)]; rw [m.no]; rfl, up⟩
theorem run_all (hA : Ask P w A s κ kd) (hk : KeysOf κ z) (m : Mid kd z t) (h2 : 2 ≤ z.size) (h64 : z.size < 64) {R : Unit → SortSt → Prop} (h : ∀ u, Fin3 κ z u → R () u) : wpS (model P w) A E s sortRuns' R t := by
  have low : minRun' z.size z.size 0 = z.size := by
    obtain ⟨k, hk⟩ : ∃ k, z.size = k + 1 := ⟨z.size - 1, by omega⟩
    have : minRun' (k + 1) z.size 0 = z.size + 0 := by rw [minRun'_succ, if_pos h64]
    rw [← hk] at this
    exact this
  rw [sortRuns'_eq]
  apply wpS_bind; apply wpS_get
  dsimp only
  simp only [m.sz, low]
  apply wpS_bind
  refine wpS_mono (wpS_forRange (I := fun x b u => if x = 0 then b = (none, 0) ∧ Mid kd z u else b = (none, z.size) ∧ Fin3 κ z u) (Q := fun b u => b = (none, z.size) ∧ Fin3 κ z u) (fun x b u _ hx hI => ?_) (fun b u hI => ?_) ?_) fun b u hI => ?_
  · by_cases c : x = 0
    · subst c
      obtain ⟨rfl, mu⟩ : b = (none, 0) ∧ Mid kd z u := by simpa using hI
      dsimp only
      rw [if_neg (by omega : ¬ (0 ≥ z.size))]
      simp only [Nat.sub_zero, Nat.min_self, Nat.zero_add]
      apply wpS_bind
      refine run_count hA hk mu (Nat.le_refl _) (by omega) fun i v mv h3 h4 up => ?_
      dsimp only
      by_cases d : i < z.size
      · rw [if_pos d]
        apply wpS_bind
        refine wpS_lift (wpAny_rule ⟨rfl, ?_⟩)
        apply wpS_bind
        refine run_bin hA hk mv (Nat.le_refl _) h4 up fun v' mv' up' => ?_
        simp only [Bool.not_true, Bool.false_eq_true, if_false]
        apply wpS_bind; apply wpS_get
        have e : (pendingOf v').back? = none := by rw [mv'.no]; rfl
        rw [e]
        dsimp only
        apply wpS_bind
        apply wpS_modify
        exact wpS_pure ⟨rfl, mv'.fin up'⟩
      · rw [if_neg d]
        obtain rfl : i = z.size := by omega
        apply wpS_bind; apply wpS_get
        have e : (pendingOf v).back? = none := by rw [mv.no]; rfl
        rw [e]
        dsimp only
        apply wpS_bind
        apply wpS_modify
        exact wpS_pure ⟨rfl, mv.fin up⟩
    · obtain ⟨rfl, fu⟩ : b = (none, z.size) ∧ Fin3 κ z u := by simpa [c] using hI
      dsimp only
      rw [if_pos (Nat.le_refl z.size)]
      exact wpS_pure ⟨rfl, fu⟩
  · have c : max 0 z.size ≠ 0 := by omega
    rw [if_neg c] at hI
    exact hI
  · exact ⟨rfl, m⟩
  · obtain ⟨rfl, fu⟩ := hI
    dsimp only
    apply wpS_bind
    refine wpS_mono (wpS_forRange (I := fun _ b v => b = (none, ()) ∧ v = u) (Q := fun b v => b = (none, ()) ∧ v = u) (fun x b v _ _ hI => ?_) (fun _ _ hI => hI) ⟨rfl, rfl⟩) fun b v hI => ?_
    · obtain ⟨rfl, rfl⟩ := hI
      apply wpS_bind; apply wpS_get
      rw [if_pos (by rw [fu.one]; exact Nat.le_refl 1)]
      exact wpS_pure ⟨rfl, rfl⟩
    · obtain ⟨rfl, rfl⟩ := hI
      exact wpS_pure (h v fu)
end
end L3

namespace L3
open PySem PySem.Spec PyProof.Rows
section
variable {P : Program} {w : World} {A : Around} {E : Value → Shared → Prop} {s : Shared} {κ : KeyKind} {kd : SortKind}
/-- h' has all that h has -/
def Grow (h h' : Heap) : Prop := ∀ b o, h.get? b = some o → h'.get? b = some o
theorem sort_by {a : Addr} {vs : List Value} {n : Nat} {R : Fin → Shared → Prop} (ho : s.heap.get? a = some (seqObj "list" vs.toArray n)) (hk : KeysOf κ (pairsOf vs))
    (hd : ∀ (t : Shared) (E : Value → Shared → Prop) (Q : SortKind → Shared → Prop), (∀ b o, b ≠ a → s.heap.get? b = some o → t.heap.get? b = some o) → 2 ≤ vs.length → Q kd t → wpAny (model P w) A (keyKind' vs.toArray) Q E t)
    (hA : ∀ t : Shared, (∀ b o, b ≠ a → s.heap.get? b = some o → t.heap.get? b = some o) → Ask P w A t κ kd) (h64 : vs.length < 64)
    (h : ∀ y : Array Keyed, y.Perm (pairsOf vs) → SortedToK κ y (pairsOf vs).size → R (.done (.ret .none)) { s with heap := sortedHeap s.heap a vs (y.map (·.2)) }) :
    wpAny (model P w) A (Builtin.«list.sort» ⟨[.ref a], []⟩) R E s := by
  have la : a < s.heap.objs.size := Heap.lt_size ho
  have lz : vs.length ≤ sizeLine := by rw [sizeLine_eq]; omega
  rw [list_sort_plain]
  apply wpAny_bind; apply listItems_at ho rfl
  refine wpAny_bind (listUpdate_at ho rfl ?_ (hsz := by simp only [List.size_toArray]; omega) (hsz2 := Nat.zero_le _))
  obtain ⟨e, h1⟩ : ∃ e, (s.heap.update a (Obj.mapSeq fun _ => #[])).get? a = some (seqObj "list" #[] e) := ⟨_, get?_update_seq ho fun _ => #[]⟩
  apply wpAny_bind; apply seqEpoch_at h1 rfl
  refine wpAny_bind (wpAny_newTuple (hsz := lz) ?_)
  refine wpAny_bind (wpAny_newList (hsz := Nat.zero_le _) ?_)
  apply wpAny_holding
  show wpAny (model P w) A _ R E { s with heap := ((s.heap.update a (Obj.mapSeq fun _ => #[])).push (seqObj "tuple" vs.toArray 0)).push (seqObj "list" #[] 0) }
  generalize hh : ((s.heap.update a (Obj.mapSeq fun _ => #[])).push (seqObj "tuple" vs.toArray 0)).push (seqObj "list" #[] 0) = g
  have g1 : g.get? a = some (seqObj "list" #[] e) := by
    rw [← hh, Heap.get?_push_ne _ _ _ (by rw [size_push', Heap.size_update]; exact Nat.ne_of_lt (Nat.lt_succ_of_lt la)), Heap.get?_push_ne _ _ _ (by rw [Heap.size_update]; exact Nat.ne_of_lt la)]
    exact h1
  have g2 : ∀ b o, b ≠ a → s.heap.get? b = some o → g.get? b = some o := fun b o hb q => by
    have lb := Heap.lt_size q
    rw [← hh, Heap.get?_push_ne _ _ _ (by rw [size_push', Heap.size_update]; exact Nat.ne_of_lt (Nat.lt_succ_of_lt lb)), Heap.get?_push_ne _ _ _ (by rw [Heap.size_update]; exact Nat.ne_of_lt lb), Heap.get?_update_ne _ _ _ _ hb]
    exact q
  have fin : ∀ y : Array Keyed, y.Perm (pairsOf vs) → SortedToK κ y (pairsOf vs).size → R (.done (.ret .none)) { s with heap := g.update a (Obj.mapSeq fun _ => y.map (·.2)) } := fun y h2 h3 => by rw [← hh]; exact h y h2 h3
  dsimp only
  have zv : vs.toArray.size = vs.length := by simp
  have room : ∀ y : Array Keyed, y.Perm (pairsOf vs) → (y.map (·.2)).size ≤ sizeLine + 1 := fun y q => by
    rw [Array.size_map, q.size_eq, pairsOf_size, sizeLine_eq]; omega
  by_cases c : vs.toArray.size < 2
  · rw [if_pos c, if_pos c]
    apply wpAny_bind; apply wpAny_pure
    rw [StateT.run_pure]
    apply wpAny_bind; apply wpAny_pure
    dsimp only
    apply wpAny_bind; apply seqEpoch_at g1 rfl
    apply wpAny_bind
    refine listUpdate_at g1 rfl ?_ (hsz2 := room (pairsOf vs) (Array.Perm.refl _))
    simp only [bne_self_eq_false, Bool.false_eq_true, if_false]
    refine wpAny_pure (fin (pairsOf vs) (Array.Perm.refl _) fun i j hij hj => ?_)
    obtain rfl : i = j := by rw [pairsOf_size] at hj; omega
    exact KeyOrd.kle_refl _
  · rw [if_neg c, if_neg c]
    apply wpAny_bind
    refine hd _ _ _ g2 (by omega) ?_
    apply wpAny_bind
    refine wpAny_mono (run_all (z := pairsOf vs) (t := SortSt.mk' kd (pairsOf vs) #[] 7 none) (R := fun _ u => Fin3 κ (pairsOf vs) u) (hA _ g2) hk ⟨Array.Perm.refl _, rfl, rfl, rfl⟩ (by rw [pairsOf_size]; omega) (by rw [pairsOf_size]; exact h64) fun u q => q) (fun r s' q => ?_) fun _ _ q => q
    obtain ⟨⟨⟩, u⟩ := r
    obtain ⟨rfl, fu⟩ := q
    dsimp only
    apply wpAny_bind; apply seqEpoch_at g1 rfl
    apply wpAny_bind
    refine listUpdate_at g1 rfl ?_ (hsz2 := room (arrOf u) fu.pm)
    rw [fu.ok]
    simp only [bne_self_eq_false, Bool.false_eq_true, if_false]
    exact wpAny_pure (fin (arrOf u) fu.pm fu.up)
theorem sorted_by {l : Addr} {vs : List Value} {Q : Value → Shared → Prop} (hl : s.heap.IsList l vs.toArray) (hk : KeysOf κ (pairsOf vs))
    (hd : ∀ (t : Shared) (E : Value → Shared → Prop) (Q : SortKind → Shared → Prop), Grow s.heap t.heap → 2 ≤ vs.length → Q kd t → wpAny (model P w) A.in1.in1 (keyKind' vs.toArray) Q E t)
    (hA : ∀ t : Shared, Grow s.heap t.heap → Ask P w A.in1.in1 t κ kd) (h64 : vs.length < 64)
    (h : ∀ y : Array Keyed, y.Perm (pairsOf vs) → SortedToK κ y (pairsOf vs).size → Q (.ref (s.heap.objs.size + 1)) { s with heap := sortedAll s.heap vs (y.map (·.2)) }) :
    wpAny (model P w) A (call (.builtin "sorted") [.ref l]) Q E s := by
  refine Calls.call_function_entry kind_sorted plain_sorted entry_sorted (args_sorted1 _) ?_
  unfold Builtin.«sorted»
  refine wpAny_bind (m := checkCount "sorted" 1 1 _) (wpAny_pure ?_)
  have lz : vs.length ≤ sizeLine := by rw [sizeLine_eq]; omega
  refine wpAny_bind (collect_list hl (hsz := lz) ?_)
  refine wpAny_bind (wpAny_newList (hsz := lz) ?_)
  show wpAny (model P w) A.in1 _ _ _ { s with heap := ((s.heap.push (seqObj "list" #[] 0)).update s.heap.objs.size (Obj.mapSeq (· ++ vs.toArray))).push (seqObj "list" vs.toArray 0) }
  generalize hg : (s.heap.push (seqObj "list" #[] 0)).update s.heap.objs.size (Obj.mapSeq (· ++ vs.toArray)) = g
  have gz : g.objs.size = s.heap.objs.size + 1 := by rw [← hg, Heap.size_update, size_push']
  have gk : Grow s.heap g := fun b o q => by
    have lb := Heap.lt_size q
    rw [← hg, Heap.get?_update_ne _ _ _ _ (Nat.ne_of_lt lb), Heap.get?_push_ne _ _ _ (Nat.ne_of_lt lb)]
    exact q
  have fin : ∀ y : Array Keyed, y.Perm (pairsOf vs) → SortedToK κ y (pairsOf vs).size → Q (.ref (s.heap.objs.size + 1)) { s with heap := sortedHeap (g.push (seqObj "list" vs.toArray 0)) (s.heap.objs.size + 1) vs (y.map (·.2)) } := fun y h1 h2 => by rw [← hg]; exact h y h1 h2
  rw [gz]
  have at' : (g.push (seqObj "list" vs.toArray 0)).get? (s.heap.objs.size + 1) = some (seqObj "list" vs.toArray 0) := by rw [← gz]; exact Heap.get?_push_size _ rfl
  have gk2 : ∀ b o, s.heap.get? b = some o → b ≠ s.heap.objs.size + 1 ∧ (g.push (seqObj "list" vs.toArray 0)).get? b = some o := fun b o q => by
    have lb := Heap.lt_size q
    have lc := Nat.ne_of_lt (Nat.lt_succ_of_lt lb)
    refine ⟨lc, ?_⟩
    rw [Heap.get?_push_ne _ _ _ (by rw [gz]; exact lc)]
    exact gk b o q
  apply wpAny_bind; apply wpAny_holding
  refine wpAny_call_entry slot_list_sort ⟨_, at', rfl⟩ entry_list_sort (sort_by (κ := κ) (kd := kd) at' hk (fun t E Q hg => hd t E Q fun b o q => hg b o (gk2 b o q).1 (gk2 b o q).2) (fun t hg => hA t fun b o q => hg b o (gk2 b o q).1 (gk2 b o q).2) h64 fun y h1 h2 => ⟨_, rfl, ?_⟩) (args_list_sort _)
  exact wpAny_pure ⟨_, rfl, fin y h1 h2⟩
end
end L3

namespace L3
open PySem PySem.Spec PyProof.Rows
/-- the value is the tuple of the place's two numbers -/
def At2 (h : Heap) (v : Value) (p : Pl) : Prop := ∃ (a : Addr) (o : Obj) (t u : Tok) (n : Nat), v = .ref a ∧ h.get? a = some o ∧ o.cls = .type "tuple" ∧ o.data = .seq #[.int p.x t, .int p.y u] n
theorem At2.grow {h h' : Heap} {v : Value} {p : Pl} (a : At2 h v p) (g : Grow h h') : At2 h' v p := by
  obtain ⟨b, o, t, u, n, h1, h2, h3, h4⟩ := a
  exact ⟨b, o, t, u, n, h1, g _ _ h2, h3, h4⟩
theorem At2.inj {h : Heap} {v : Value} {p q : Pl} (a : At2 h v p) (b : At2 h v q) : p = q := by
  obtain ⟨a1, o, t, u, n, rfl, h2, h3, h4⟩ := a
  obtain ⟨a2, o', t', u', n', e, k2, k3, k4⟩ := b
  injection e with e
  subst e
  rw [h2] at k2
  injection k2 with k2
  subst k2
  rw [h4] at k4
  injection k4 with k4 _
  cases p; cases q
  simp at k4
  obtain ⟨⟨e1, _⟩, e2, _⟩ := k4
  rw [e1, e2]
open Classical in
noncomputable def kPl (h : Heap) : KeyKind where
  α := Pl
  blt p q := decide (bef p q)
  irrefl p := decide_eq_false (bef_irrefl p)
  trans p q r a b := decide_eq_true (bef_trans (of_decide_eq_true a) (of_decide_eq_true b))
  negTrans p q r a := by
    have a := of_decide_eq_true a
    rcases bef_tri p q with c | c | c
    · exact .inl (decide_eq_true c)
    · subst c; exact .inr (decide_eq_true a)
    · exact .inr (decide_eq_true (bef_trans c a))
  total p q a b := by
    rcases bef_tri p q with c | c | c
    · exact absurd c (of_decide_eq_false a)
    · exact c
    · exact absurd c (of_decide_eq_false b)
  keyOf v := if e : ∃ p, At2 h v p then some e.choose else none
  dflt := ⟨0, 0⟩
open Classical in
theorem kPl_key {h : Heap} {v : Value} {p : Pl} (a : At2 h v p) : (kPl h).keyOf v = some p := by
  have e : ∃ p, At2 h v p := ⟨p, a⟩
  show (if e : ∃ p, At2 h v p then some e.choose else none) = some p
  rw [dif_pos e, At2.inj e.choose_spec a]
open Classical in
theorem kPl_of {h : Heap} {v : Value} {p : Pl} (a : (kPl h).keyOf v = some p) : At2 h v p := by
  have a : (if e : ∃ p, At2 h v p then some e.choose else none) = some p := a
  by_cases e : ∃ p, At2 h v p
  · rw [dif_pos e] at a
    have := e.choose_spec
    rwa [Option.some.inj a] at this
  · rw [dif_neg e] at a; cases a
section
variable {P : Program} {w : World} {A : Around} {E : Value → Shared → Prop} {s : Shared}
theorem keyLt_tup (f : Bool) (v u : Value) : keyLt' (tuples' f) v u = (do
    let a ← Builtin.List.listItems v; let b ← Builtin.List.listItems u
    for ((c, d), k) in (a.toList.zip b.toList).zipIdx do { if !(← eqBool c d) then return ← oneLt' (f && k == 0) c d }
    return a.size < b.size) := rfl
theorem oneLt_int' {b : Bool} {i j : Int} {t u : Tok} {Q : Bool → Shared → Prop} (h : Q (decide (i < j)) s) : wpAny (model P w) A (oneLt' b (.int i t) (.int j u)) Q E s := by
  cases b with
  | true => exact oneLt_int h
  | false =>
    rw [oneLt'_eq]
    simp only [Bool.false_eq_true, if_false]
    apply wpAny_bind
    refine (lt_int ?_ : wpAny (model P w) A (compareOp .Lt (.int i t) (.int j u)) _ E s)
    exact wpAny_truthy_bool h
theorem lt_pl {t : Shared} {x y : Value} {p q : Pl} {f : Bool} {R : Bool → Shared → Prop} (kx : At2 t.heap x p) (ky : At2 t.heap y q) (hR : R (decide (bef p q)) t) : wpAny (model P w) A (keyLt' (tuples' f) x y) R E t := by
  obtain ⟨a, o, t1, u1, n1, rfl, h2, h3, h4⟩ := kx
  obtain ⟨b, o', t2, u2, n2, rfl, k2, k3, k4⟩ := ky
  rw [keyLt_tup]
  apply wpAny_bind; apply listItems_at h2 h4
  apply wpAny_bind; apply listItems_at k2 k4
  simp only [List.zip_cons_cons, List.zip_nil_right, List.zipIdx_cons, List.zipIdx_nil, List.forIn_cons, List.forIn_nil, bind_assoc]
  apply wpAny_bind
  apply wpAny_eqBool_int
  by_cases ex : p.x = q.x
  · have e : (p.x == q.x) = true := beq_iff_eq.mpr ex
    rw [e]
    simp only [Bool.not_true, Bool.false_eq_true, if_false, pure_bind, bind_assoc]
    apply wpAny_bind
    apply wpAny_eqBool_int
    by_cases ey : p.y = q.y
    · have e : (p.y == q.y) = true := beq_iff_eq.mpr ey
      rw [e]
      simp only [Bool.not_true, Bool.false_eq_true, if_false, pure_bind]
      have en : decide (bef p q) = false := decide_eq_false (by unfold bef; omega)
      rw [en] at hR
      exact wpAny_pure hR
    · have e : (p.y == q.y) = false := beq_eq_false_iff_ne.mpr ey
      rw [e]
      simp only [Bool.not_false, if_true, bind_assoc, pure_bind]
      apply wpAny_bind
      apply oneLt_int'
      have en : decide (bef p q) = decide (p.y < q.y) := by rw [decide_eq_decide]; unfold bef; omega
      rw [en] at hR
      exact wpAny_pure hR
  · have e : (p.x == q.x) = false := beq_eq_false_iff_ne.mpr ex
    rw [e]
    simp only [Bool.not_false, if_true, bind_assoc, pure_bind]
    apply wpAny_bind
    apply oneLt_int'
    have en : decide (bef p q) = decide (p.x < q.x) := by rw [decide_eq_decide]; unfold bef; omega
    rw [en] at hR
    exact wpAny_pure hR
theorem ask_pl {h : Heap} {t : Shared} (g : Grow h t.heap) (f : Bool) : Ask P w A t (kPl h) (tuples' f) :=
  ⟨fun E x y p q R kx ky hR => lt_pl ((kPl_of kx).grow g) ((kPl_of ky).grow g) hR⟩
theorem wp_mapM {β : Type} {f : Value → Sem β} (R : Value → β → Prop) : ∀ (vs : List Value) (Q : List β → Shared → Prop), (∀ v ∈ vs, ∀ (Q : β → Shared → Prop), (∀ b, R v b → Q b s) → wpAny (model P w) A (f v) Q E s) →
    (∀ bs : List β, Paired R vs bs → Q bs s) → wpAny (model P w) A (vs.mapM f) Q E s
  | [], Q, _, h => by rw [List.mapM_nil]; exact wpAny_pure (h [] .nil)
  | v :: vs, Q, hv, h => by
    rw [List.mapM_cons]
    apply wpAny_bind
    refine hv v (List.mem_cons_self ..) _ fun b rb => ?_
    apply wpAny_bind
    refine wp_mapM R vs _ (fun u hu => hv u (List.mem_cons_of_mem _ hu)) fun bs rbs => ?_
    exact wpAny_pure (h (b :: bs) (.cons rb rbs))
theorem first_tup (v : Value) : firstOfTuple' v = (typeOf v >>= fun t => if t != .type "tuple" then pure none else Builtin.List.listItems v >>= fun a => pure a[0]?) := rfl
theorem kind_pl {vs : List Value} (h2 : 1 ≤ vs.length) (hv : ∀ v ∈ vs, ∃ p, At2 s.heap v p) {Q : SortKind → Shared → Prop} (h : Q (tuples' true) s) : wpAny (model P w) A (keyKind' vs.toArray) Q E s := by
  rw [keyKind'_eq, List.mapM_toArray]
  simp only [bind_map_left]
  apply wpAny_bind
  refine wp_mapM (fun _ b => ∃ i t, b = some (Value.int i t)) vs _ (fun v hm Q hQ => ?_) fun bs hb => ?_
  · obtain ⟨p, a, o, t, u, n, rfl, k2, k3, k4⟩ := hv v hm
    rw [first_tup]
    apply wpAny_bind
    refine wpAny_typeOf (T := "tuple") ⟨o, k2, k3⟩ ?_
    have e : (Value.type "tuple" != Value.type "tuple") = false := by decide
    rw [e]
    simp only [Bool.false_eq_true, if_false, pure_bind]
    apply wpAny_bind; apply listItems_at k2 k4
    exact wpAny_pure (hQ _ ⟨p.x, t, rfl⟩)
  · have all : ∀ (vs : List Value) (bs : List (Option Value)), Paired (fun _ b => ∃ i t, b = some (Value.int i t)) vs bs → bs.length = vs.length ∧ (∀ b ∈ bs, ∃ i t, b = some (Value.int i t)) := by
      intro vs
      induction vs with
      | nil => intro bs q; cases q; exact ⟨rfl, fun _ z => by cases z⟩
      | cons v vs ih =>
        intro bs q
        cases q with
        | cons q1 q2 =>
          obtain ⟨l, m⟩ := ih _ q2
          refine ⟨by simp [l], fun b hb => ?_⟩
          rcases List.mem_cons.mp hb with rfl | hb
          · exact q1
          · exact m b hb
    obtain ⟨hl, hm⟩ := all vs bs hb
    have c : (bs.toArray.all fun b => b.isSome) = true := by
      simp only [List.all_toArray, List.all_eq_true]
      intro b hb
      obtain ⟨i, t, rfl⟩ := hm b hb
      rfl
    rw [if_pos c]
    apply wpAny_bind; apply wpAny_rule
    rw [oneTypeOnly'_eq]
    have ef : bs.toArray.filterMap id = (bs.filterMap id).toArray := by simp
    rw [ef, List.mapM_toArray]
    simp only [bind_map_left, bind_assoc]
    apply wpAny_bind
    refine wp_mapM (fun _ b => b = Value.type "int") _ _ (fun v hv' Q hQ => ?_) fun cs hc => ?_
    · obtain ⟨b, hb1, hb2⟩ := List.mem_filterMap.mp hv'
      obtain ⟨i, t, rfl⟩ := hm b hb1
      have hb2 : some (Value.int i t) = some v := hb2
      cases hb2
      exact wpAny_typeOf (T := "int") (typeIs_int s i t) (hQ _ rfl)
    · have len : 1 ≤ (bs.filterMap id).length := by
        cases bs with
        | nil => simp at hl; omega
        | cons b bs =>
          obtain ⟨i, t, rfl⟩ := hm b (List.mem_cons_self ..)
          simp
      have all2 : ∀ (us cs : List Value), Paired (fun _ b => b = Value.type "int") us cs → cs = us.map fun _ => Value.type "int" := by
        intro us
        induction us with
        | nil => intro cs q; cases q; rfl
        | cons u us ih => intro cs q; cases q with | cons q1 q2 => rw [q1, ih _ q2]; rfl
      rw [all2 _ _ hc]
      generalize bs.filterMap id = us at len
      cases us with
      | nil => simp at len
      | cons u us =>
        have e0 : (List.map (fun _ => Value.type "int") (u :: us)).toArray[0]? = some (Value.type "int") := by simp
        rw [e0]
        have e1 : ((List.map (fun _ => Value.type "int") (u :: us)).toArray.all fun x => x == Value.type "int") = true := by
          simp only [List.all_toArray, List.all_map, List.all_eq_true]
          intro _ _; rfl
        simp only [e1, if_true, pure_bind]
        exact wpAny_pure h
end
end L3

namespace L3
open PySem PySem.Spec PyProof.Rows
section
variable {P : Program} {w : World} {A : Around} {E : Value → Shared → Prop} {s : Shared}
/-- one more of the items, the best so far in hand -/
theorem min_go {h0 : Heap} {I S : Addr} {fp wr : List Addr} {n : Nat} {Pr : Nat → Value → Prop} {St : Nat → Heap → Prop} {bt : Nat → Nat → Bool} {R : Result → Shared → Prop} (W : Walks P w A.in1 I fp wr n Pr St)
    (hc : ∀ (i j : Nat) (vi vj : Value) (t : Shared) (Q : Value → Shared → Prop) (E : Value → Shared → Prop), Grow h0 t.heap → Pr i vi → Pr j vj → Q (.bool (bt i j)) t → wpAny (model P w) A.in1 (richCompare .Lt vi vj) Q E t)
    (hS : S ∉ fp) (h0w : ∀ b o, h0.get? b = some o → b ∉ wr ∧ b ≠ S) : ∀ (m k : Nat) (t : Shared) (vb : Value) (c : Nat), n - (k + 1) = m → k + 1 ≤ n → Grow h0 t.heap → St (k + 1) t.heap → Pr (argBest bt k) vb →
    t.heap.get? S = some { cls := .type "list", dict := none, data := .seq #[vb, vb] c, slots := #[] } →
    (∀ v h' tk, Pr (argBest bt (n - 1)) v → (∀ b o, b ∉ wr → b ≠ S → t.heap.get? b = some o → h'.get? b = some o) → R (.ok (.ret v)) { t with heap := h', toks := tk }) →
    codeAny (model P w) A (.builtin "min.loop" ⟨[.ref I, .none, .ref S], []⟩) R t := by
  have Sw : S ∉ wr := fun q => hS (W.sub _ q)
  have nm : (toString "min" ++ toString ".loop" : String) = "min.loop" := by decide
  intro m
  induction m with
  | zero =>
    intro k t vb c e1 e2 gr st pb hs hR
    have ek : k + 1 = n := by omega
    refine codeAny_builtin F.entry_min_loop ?_
    rw [Around.under_plainId F.plain_min_loop]
    show wpAny (model P w) A.in1 (seqItems? (.ref S) >>= _) _ _ t
    apply wpAny_bind; apply wpAny_seqItems hs rfl
    show wpAny (model P w) A.in1 (tryCatch (pyNext (.ref I)) _ >>= _) _ _ t
    apply wpAny_bind; apply wpAny_tryCatch
    refine W.done t _ _ (ek ▸ st) fun h' tk kp => ?_
    have hs2 := kp S _ Sw hs
    show wpAny (model P w) A.in1 (updateSeq S (fun _ => #[]) >>= _) _ _ _
    apply wpAny_bind
    refine wpAny_updateSeq hs2 rfl ?_
    apply wpAny_bind; apply wpAny_letGo; apply wpAny_pure
    exact hR vb _ tk (by rw [← ek]; exact pb) fun b o q1 q2 q => (Heap.get?_update_other _ _ (Ne.symm q2)).trans (kp b o q1 q)
  | succ m ih =>
    intro k t vb c e1 e2 gr st pb hs hR
    refine codeAny_builtin F.entry_min_loop ?_
    rw [Around.under_plainId F.plain_min_loop]
    show wpAny (model P w) A.in1 (seqItems? (.ref S) >>= _) _ _ t
    apply wpAny_bind; apply wpAny_seqItems hs rfl
    show wpAny (model P w) A.in1 (tryCatch (pyNext (.ref I)) _ >>= _) _ _ t
    apply wpAny_bind; apply wpAny_tryCatch
    refine W.item (k + 1) t _ _ (by omega) st fun v h' tk pv st2 kp => ?_
    have hs2 := kp S _ Sw hs
    have gr2 : Grow h0 h' := fun b o q => kp b o (h0w b o q).1 (gr b o q)
    show wpAny (model P w) A.in1 (tryCatch (holding [v, v] (richCompare .Lt v vb >>= _)) _ >>= _) _ _ _
    apply wpAny_bind; apply wpAny_tryCatch; apply wpAny_holding; apply wpAny_bind
    refine hc (k + 1) (argBest bt k) v vb _ _ _ gr2 pv pb ?_
    apply wpAny_bind; apply wpAny_holding; apply wpAny_truthy_bool
    apply wpAny_bind; apply wpAny_letGo; apply wpAny_pure
    cases d : bt (k + 1) (argBest bt k) with
    | true =>
      rw [if_pos rfl]
      apply wpAny_bind
      refine wpAny_updateSeq hs2 rfl ?_
      apply wpAny_bind; apply wpAny_letGo
      rw [nm]
      refine wpAny_pure ⟨plainId_quiet F.plain_min_loop _, ih (k + 1) _ v _ (by omega) (by omega) (fun b o q => (Heap.get?_update_other _ _ (Ne.symm (h0w b o q).2)).trans (gr2 b o q)) (W.frame _ _ _ st2 fun b q1 o q => (Heap.get?_update_other _ _ (fun z : S = b => hS (z ▸ q1))).trans q) (by simp only [argBest, d, if_true]; exact pv) (Heap.get?_update_self _ hs2 rfl) fun v2 h2 tk2 p2 kp2 => ?_⟩
      exact hR v2 h2 tk2 p2 fun b o q1 q2 q => kp2 b o q1 q2 ((Heap.get?_update_other _ _ (Ne.symm q2)).trans (kp b o q1 q))
    | false =>
      rw [if_neg Bool.false_ne_true]
      apply wpAny_bind; apply wpAny_letGo
      rw [nm]
      refine wpAny_pure ⟨plainId_quiet F.plain_min_loop _, ih (k + 1) _ vb c (by omega) (by omega) gr2 st2 (by simp only [argBest, d, Bool.false_eq_true, if_false]; exact pb) hs2 fun v2 h2 tk2 p2 kp2 => ?_⟩
      exact hR v2 h2 tk2 p2 fun b o q1 q2 q => kp2 b o q1 q2 (kp b o q1 q)
theorem min_start {h0 : Heap} {I S : Addr} {fp wr : List Addr} {n : Nat} {Pr : Nat → Value → Prop} {St : Nat → Heap → Prop} {bt : Nat → Nat → Bool} {R : Result → Shared → Prop} {t : Shared} {c : Nat} (W : Walks P w A.in1 I fp wr n Pr St)
    (hc : ∀ (i j : Nat) (vi vj : Value) (t : Shared) (Q : Value → Shared → Prop) (E : Value → Shared → Prop), Grow h0 t.heap → Pr i vi → Pr j vj → Q (.bool (bt i j)) t → wpAny (model P w) A.in1 (richCompare .Lt vi vj) Q E t)
    (hS : S ∉ fp) (h0w : ∀ b o, h0.get? b = some o → b ∉ wr ∧ b ≠ S) (hn : 0 < n) (gr : Grow h0 t.heap) (st : St 0 t.heap) (hs : t.heap.get? S = some { cls := .type "list", dict := none, data := .seq #[] c, slots := #[] })
    (hR : ∀ v h' tk, Pr (argBest bt (n - 1)) v → (∀ b o, b ∉ wr → b ≠ S → t.heap.get? b = some o → h'.get? b = some o) → R (.ok (.ret v)) { t with heap := h', toks := tk }) :
    codeAny (model P w) A (.builtin "min.loop" ⟨[.ref I, .none, .ref S], []⟩) R t := by
  have Sw : S ∉ wr := fun q => hS (W.sub _ q)
  have nm : (toString "min" ++ toString ".loop" : String) = "min.loop" := by decide
  refine codeAny_builtin F.entry_min_loop ?_
  rw [Around.under_plainId F.plain_min_loop]
  show wpAny (model P w) A.in1 (seqItems? (.ref S) >>= _) _ _ t
  apply wpAny_bind; apply wpAny_seqItems hs rfl
  show wpAny (model P w) A.in1 (tryCatch (pyNext (.ref I)) _ >>= _) _ _ t
  apply wpAny_bind; apply wpAny_tryCatch
  refine W.item 0 t _ _ hn st fun v h' tk pv st2 kp => ?_
  have hs2 := kp S _ Sw hs
  have gr2 : Grow h0 h' := fun b o q => kp b o (h0w b o q).1 (gr b o q)
  show wpAny (model P w) A.in1 (updateSeq S (fun _ => #[v, v]) >>= _) _ _ _
  apply wpAny_bind
  refine wpAny_updateSeq hs2 rfl ?_
  rw [nm]
  refine wpAny_pure ⟨plainId_quiet F.plain_min_loop _, min_go W hc hS h0w _ 0 _ v _ rfl hn (fun b o q => (Heap.get?_update_other _ _ (Ne.symm (h0w b o q).2)).trans (gr2 b o q)) (W.frame _ _ _ st2 fun b q1 o q => (Heap.get?_update_other _ _ (fun z : S = b => hS (z ▸ q1))).trans q) pv (Heap.get?_update_self _ hs2 rfl) fun v2 h2 tk2 p2 kp2 => ?_⟩
  exact hR v2 h2 tk2 p2 fun b o q1 q2 q => kp2 b o q1 q2 ((Heap.get?_update_other _ _ (Ne.symm q2)).trans (kp b o q1 q))
theorem min_args (a b c d : Value) : argsOk "min" ⟨[a, b, c, d], []⟩ := by unfold argsOk; kernel_rfl
theorem min_many {vs : List Value} {bt : Nat → Nat → Bool} {Q : Value → Shared → Prop} (ha : argsOk "min" ⟨vs, []⟩) (h2 : 2 ≤ vs.length) (hz : vs.length < 64) (hh : A.handled = none)
    (hc : ∀ (i j : Nat) (vi vj : Value) (t : Shared) (Q : Value → Shared → Prop) (E : Value → Shared → Prop), Grow s.heap t.heap → vs[i]? = some vi → vs[j]? = some vj → Q (.bool (bt i j)) t → wpAny (model P w) A.in1 (richCompare .Lt vi vj) Q E t)
    (h : ∀ v h' tk, vs[argBest bt (vs.length - 1)]? = some v → Grow s.heap h' → Q v { s with heap := h', toks := tk }) : wpAny (model P w) A (call (.builtin "min") vs) Q E s := by
  have nm : (toString "min" ++ toString ".loop" : String) = "min.loop" := by decide
  have lz : vs.length ≤ sizeLine := by rw [sizeLine_eq]; omega
  refine call_function_tree F.kind_min F.plain_min F.entry_min ha ?_
  match vs, h2 with
  | v1 :: v2 :: rest, _ =>
    show wpAny (model P w) A.in1 (Builtin.Builtins.bindParams "min" ["key", "default"] 0 ⟨[], []⟩ >>= _) _ _ s
    refine wpAny_bind (wpAny_of_eq (show Builtin.Builtins.bindParams "min" ["key", "default"] 0 ⟨[], []⟩ = pure [none, none] from rfl) ?_)
    show wpAny (model P w) A.in1 (newTuple (v1 :: v2 :: rest) >>= _) _ _ s
    refine wpAny_bind (wpAny_newTuple (hsz := lz) ?_)
    have sz1 : (s.heap.push { cls := .type "tuple", data := .seq (v1 :: v2 :: rest).toArray }).objs.size = s.heap.objs.size + 1 := Heap.size_push ..
    have tp : (s.heap.push { cls := .type "tuple", data := .seq (v1 :: v2 :: rest).toArray }).IsTuple s.heap.objs.size (v1 :: v2 :: rest).toArray := ⟨_, Heap.get?_push_size _ rfl, rfl, 0, rfl⟩
    refine wpAny_bind (wpAny_pyIter_tuple tp ?_)
    generalize hg : s.heap.push { cls := .type "tuple", data := .seq (v1 :: v2 :: rest).toArray } = g at sz1 tp
    have k0 : Grow s.heap g := fun b o q => by rw [← hg]; exact Heap.get?_push_of_some _ q
    apply wpAny_bind
    refine wpAny_newObj_type ?_
    have sz2 : (g.push { cls := .type "tuple_iterator", data := .fields #[.ref s.heap.objs.size, .int 0 0] }).objs.size = s.heap.objs.size + 2 := by rw [Heap.size_push, sz1]
    rw [nm]
    refine wpAny_pure ⟨plainId_quiet F.plain_min_loop _, min_start (h0 := s.heap) (Walks.tuple (A := A.in1) hh _ s.heap.objs.size (by rw [sz1]; exact Nat.ne_of_lt (Nat.lt_succ_self _)) (v1 :: v2 :: rest).toArray) (bt := bt) (fun i j vi vj t Q E g1 p1 p2 q => hc i j vi vj t Q E g1 (by simpa using p1) (by simpa using p2) q) ?_ (fun b o q => ?_) (by simp) (fun b o q => Heap.get?_push_of_some _ (Heap.get?_push_of_some _ (k0 b o q))) ⟨⟨_, Heap.get?_push_of_some _ (Heap.get?_push_size _ rfl), rfl, rfl⟩, (tp.push _).push _⟩ (Heap.get?_push_size _ rfl) fun v h' tk p kp => ?_⟩
    · intro q
      rw [sz1, sz2] at q
      rcases List.mem_cons.mp q with q | q
      · exact absurd q (by intro z; exact absurd (Nat.succ.inj z) (Nat.succ_ne_self _))
      · have q := List.mem_singleton.mp q
        exact absurd q (by intro z; have : s.heap.objs.size + 2 = s.heap.objs.size := z; omega)
    · have lb := Heap.lt_size q
      rw [sz1, sz2]
      refine ⟨fun z => ?_, fun z => ?_⟩
      · have z := List.mem_singleton.mp z
        rw [z] at lb
        exact absurd lb (Nat.not_lt.mpr (Nat.le_succ _))
      · rw [z] at lb
        exact absurd lb (Nat.not_lt.mpr (Nat.le_add_right _ 2))
    · refine h v h' tk (by simpa using p) fun b o q => ?_
      have lb := Heap.lt_size q
      refine kp b o (fun z => ?_) (fun z => ?_) (Heap.get?_push_of_some _ (Heap.get?_push_of_some _ (k0 b o q)))
      · have z := List.mem_singleton.mp z
        rw [z, sz1] at lb
        exact absurd lb (Nat.not_lt.mpr (Nat.le_succ _))
      · rw [z, sz2] at lb
        exact absurd lb (Nat.not_lt.mpr (Nat.le_add_right _ 2))
/-- one more of the items, the best so far in hand -/
theorem max_go {h0 : Heap} {I S : Addr} {fp wr : List Addr} {n : Nat} {Pr : Nat → Value → Prop} {St : Nat → Heap → Prop} {bt : Nat → Nat → Bool} {R : Result → Shared → Prop} (W : Walks P w A.in1 I fp wr n Pr St)
    (hc : ∀ (i j : Nat) (vi vj : Value) (t : Shared) (Q : Value → Shared → Prop) (E : Value → Shared → Prop), Grow h0 t.heap → Pr i vi → Pr j vj → Q (.bool (bt i j)) t → wpAny (model P w) A.in1 (richCompare .Gt vi vj) Q E t)
    (hS : S ∉ fp) (h0w : ∀ b o, h0.get? b = some o → b ∉ wr ∧ b ≠ S) : ∀ (m k : Nat) (t : Shared) (vb : Value) (c : Nat), n - (k + 1) = m → k + 1 ≤ n → Grow h0 t.heap → St (k + 1) t.heap → Pr (argBest bt k) vb →
    t.heap.get? S = some { cls := .type "list", dict := none, data := .seq #[vb, vb] c, slots := #[] } →
    (∀ v h' tk, Pr (argBest bt (n - 1)) v → (∀ b o, b ∉ wr → b ≠ S → t.heap.get? b = some o → h'.get? b = some o) → R (.ok (.ret v)) { t with heap := h', toks := tk }) →
    codeAny (model P w) A (.builtin "max.loop" ⟨[.ref I, .none, .ref S], []⟩) R t := by
  have Sw : S ∉ wr := fun q => hS (W.sub _ q)
  have nm : (toString "max" ++ toString ".loop" : String) = "max.loop" := by decide
  intro m
  induction m with
  | zero =>
    intro k t vb c e1 e2 gr st pb hs hR
    have ek : k + 1 = n := by omega
    refine codeAny_builtin F.entry_max_loop ?_
    rw [Around.under_plainId F.plain_max_loop]
    show wpAny (model P w) A.in1 (seqItems? (.ref S) >>= _) _ _ t
    apply wpAny_bind; apply wpAny_seqItems hs rfl
    show wpAny (model P w) A.in1 (tryCatch (pyNext (.ref I)) _ >>= _) _ _ t
    apply wpAny_bind; apply wpAny_tryCatch
    refine W.done t _ _ (ek ▸ st) fun h' tk kp => ?_
    have hs2 := kp S _ Sw hs
    show wpAny (model P w) A.in1 (updateSeq S (fun _ => #[]) >>= _) _ _ _
    apply wpAny_bind
    refine wpAny_updateSeq hs2 rfl ?_
    apply wpAny_bind; apply wpAny_letGo; apply wpAny_pure
    exact hR vb _ tk (by rw [← ek]; exact pb) fun b o q1 q2 q => (Heap.get?_update_other _ _ (Ne.symm q2)).trans (kp b o q1 q)
  | succ m ih =>
    intro k t vb c e1 e2 gr st pb hs hR
    refine codeAny_builtin F.entry_max_loop ?_
    rw [Around.under_plainId F.plain_max_loop]
    show wpAny (model P w) A.in1 (seqItems? (.ref S) >>= _) _ _ t
    apply wpAny_bind; apply wpAny_seqItems hs rfl
    show wpAny (model P w) A.in1 (tryCatch (pyNext (.ref I)) _ >>= _) _ _ t
    apply wpAny_bind; apply wpAny_tryCatch
    refine W.item (k + 1) t _ _ (by omega) st fun v h' tk pv st2 kp => ?_
    have hs2 := kp S _ Sw hs
    have gr2 : Grow h0 h' := fun b o q => kp b o (h0w b o q).1 (gr b o q)
    show wpAny (model P w) A.in1 (tryCatch (holding [v, v] (richCompare .Gt v vb >>= _)) _ >>= _) _ _ _
    apply wpAny_bind; apply wpAny_tryCatch; apply wpAny_holding; apply wpAny_bind
    refine hc (k + 1) (argBest bt k) v vb _ _ _ gr2 pv pb ?_
    apply wpAny_bind; apply wpAny_holding; apply wpAny_truthy_bool
    apply wpAny_bind; apply wpAny_letGo; apply wpAny_pure
    cases d : bt (k + 1) (argBest bt k) with
    | true =>
      rw [if_pos rfl]
      apply wpAny_bind
      refine wpAny_updateSeq hs2 rfl ?_
      apply wpAny_bind; apply wpAny_letGo
      rw [nm]
      refine wpAny_pure ⟨plainId_quiet F.plain_max_loop _, ih (k + 1) _ v _ (by omega) (by omega) (fun b o q => (Heap.get?_update_other _ _ (Ne.symm (h0w b o q).2)).trans (gr2 b o q)) (W.frame _ _ _ st2 fun b q1 o q => (Heap.get?_update_other _ _ (fun z : S = b => hS (z ▸ q1))).trans q) (by simp only [argBest, d, if_true]; exact pv) (Heap.get?_update_self _ hs2 rfl) fun v2 h2 tk2 p2 kp2 => ?_⟩
      exact hR v2 h2 tk2 p2 fun b o q1 q2 q => kp2 b o q1 q2 ((Heap.get?_update_other _ _ (Ne.symm q2)).trans (kp b o q1 q))
    | false =>
      rw [if_neg Bool.false_ne_true]
      apply wpAny_bind; apply wpAny_letGo
      rw [nm]
      refine wpAny_pure ⟨plainId_quiet F.plain_max_loop _, ih (k + 1) _ vb c (by omega) (by omega) gr2 st2 (by simp only [argBest, d, Bool.false_eq_true, if_false]; exact pb) hs2 fun v2 h2 tk2 p2 kp2 => ?_⟩
      exact hR v2 h2 tk2 p2 fun b o q1 q2 q => kp2 b o q1 q2 (kp b o q1 q)
theorem max_start {h0 : Heap} {I S : Addr} {fp wr : List Addr} {n : Nat} {Pr : Nat → Value → Prop} {St : Nat → Heap → Prop} {bt : Nat → Nat → Bool} {R : Result → Shared → Prop} {t : Shared} {c : Nat} (W : Walks P w A.in1 I fp wr n Pr St)
    (hc : ∀ (i j : Nat) (vi vj : Value) (t : Shared) (Q : Value → Shared → Prop) (E : Value → Shared → Prop), Grow h0 t.heap → Pr i vi → Pr j vj → Q (.bool (bt i j)) t → wpAny (model P w) A.in1 (richCompare .Gt vi vj) Q E t)
    (hS : S ∉ fp) (h0w : ∀ b o, h0.get? b = some o → b ∉ wr ∧ b ≠ S) (hn : 0 < n) (gr : Grow h0 t.heap) (st : St 0 t.heap) (hs : t.heap.get? S = some { cls := .type "list", dict := none, data := .seq #[] c, slots := #[] })
    (hR : ∀ v h' tk, Pr (argBest bt (n - 1)) v → (∀ b o, b ∉ wr → b ≠ S → t.heap.get? b = some o → h'.get? b = some o) → R (.ok (.ret v)) { t with heap := h', toks := tk }) :
    codeAny (model P w) A (.builtin "max.loop" ⟨[.ref I, .none, .ref S], []⟩) R t := by
  have Sw : S ∉ wr := fun q => hS (W.sub _ q)
  have nm : (toString "max" ++ toString ".loop" : String) = "max.loop" := by decide
  refine codeAny_builtin F.entry_max_loop ?_
  rw [Around.under_plainId F.plain_max_loop]
  show wpAny (model P w) A.in1 (seqItems? (.ref S) >>= _) _ _ t
  apply wpAny_bind; apply wpAny_seqItems hs rfl
  show wpAny (model P w) A.in1 (tryCatch (pyNext (.ref I)) _ >>= _) _ _ t
  apply wpAny_bind; apply wpAny_tryCatch
  refine W.item 0 t _ _ hn st fun v h' tk pv st2 kp => ?_
  have hs2 := kp S _ Sw hs
  have gr2 : Grow h0 h' := fun b o q => kp b o (h0w b o q).1 (gr b o q)
  show wpAny (model P w) A.in1 (updateSeq S (fun _ => #[v, v]) >>= _) _ _ _
  apply wpAny_bind
  refine wpAny_updateSeq hs2 rfl ?_
  rw [nm]
  refine wpAny_pure ⟨plainId_quiet F.plain_max_loop _, max_go W hc hS h0w _ 0 _ v _ rfl hn (fun b o q => (Heap.get?_update_other _ _ (Ne.symm (h0w b o q).2)).trans (gr2 b o q)) (W.frame _ _ _ st2 fun b q1 o q => (Heap.get?_update_other _ _ (fun z : S = b => hS (z ▸ q1))).trans q) pv (Heap.get?_update_self _ hs2 rfl) fun v2 h2 tk2 p2 kp2 => ?_⟩
  exact hR v2 h2 tk2 p2 fun b o q1 q2 q => kp2 b o q1 q2 ((Heap.get?_update_other _ _ (Ne.symm q2)).trans (kp b o q1 q))
theorem max_args (a b c d : Value) : argsOk "max" ⟨[a, b, c, d], []⟩ := by unfold argsOk; kernel_rfl
theorem max_many {vs : List Value} {bt : Nat → Nat → Bool} {Q : Value → Shared → Prop} (ha : argsOk "max" ⟨vs, []⟩) (h2 : 2 ≤ vs.length) (hz : vs.length < 64) (hh : A.handled = none)
    (hc : ∀ (i j : Nat) (vi vj : Value) (t : Shared) (Q : Value → Shared → Prop) (E : Value → Shared → Prop), Grow s.heap t.heap → vs[i]? = some vi → vs[j]? = some vj → Q (.bool (bt i j)) t → wpAny (model P w) A.in1 (richCompare .Gt vi vj) Q E t)
    (h : ∀ v h' tk, vs[argBest bt (vs.length - 1)]? = some v → Grow s.heap h' → Q v { s with heap := h', toks := tk }) : wpAny (model P w) A (call (.builtin "max") vs) Q E s := by
  have nm : (toString "max" ++ toString ".loop" : String) = "max.loop" := by decide
  have lz : vs.length ≤ sizeLine := by rw [sizeLine_eq]; omega
  refine call_function_tree F.kind_max F.plain_max F.entry_max ha ?_
  match vs, h2 with
  | v1 :: v2 :: rest, _ =>
    show wpAny (model P w) A.in1 (Builtin.Builtins.bindParams "max" ["key", "default"] 0 ⟨[], []⟩ >>= _) _ _ s
    refine wpAny_bind (wpAny_of_eq (show Builtin.Builtins.bindParams "max" ["key", "default"] 0 ⟨[], []⟩ = pure [none, none] from rfl) ?_)
    show wpAny (model P w) A.in1 (newTuple (v1 :: v2 :: rest) >>= _) _ _ s
    refine wpAny_bind (wpAny_newTuple (hsz := lz) ?_)
    have sz1 : (s.heap.push { cls := .type "tuple", data := .seq (v1 :: v2 :: rest).toArray }).objs.size = s.heap.objs.size + 1 := Heap.size_push ..
    have tp : (s.heap.push { cls := .type "tuple", data := .seq (v1 :: v2 :: rest).toArray }).IsTuple s.heap.objs.size (v1 :: v2 :: rest).toArray := ⟨_, Heap.get?_push_size _ rfl, rfl, 0, rfl⟩
    refine wpAny_bind (wpAny_pyIter_tuple tp ?_)
    generalize hg : s.heap.push { cls := .type "tuple", data := .seq (v1 :: v2 :: rest).toArray } = g at sz1 tp
    have k0 : Grow s.heap g := fun b o q => by rw [← hg]; exact Heap.get?_push_of_some _ q
    apply wpAny_bind
    refine wpAny_newObj_type ?_
    have sz2 : (g.push { cls := .type "tuple_iterator", data := .fields #[.ref s.heap.objs.size, .int 0 0] }).objs.size = s.heap.objs.size + 2 := by rw [Heap.size_push, sz1]
    rw [nm]
    refine wpAny_pure ⟨plainId_quiet F.plain_max_loop _, max_start (h0 := s.heap) (Walks.tuple (A := A.in1) hh _ s.heap.objs.size (by rw [sz1]; exact Nat.ne_of_lt (Nat.lt_succ_self _)) (v1 :: v2 :: rest).toArray) (bt := bt) (fun i j vi vj t Q E g1 p1 p2 q => hc i j vi vj t Q E g1 (by simpa using p1) (by simpa using p2) q) ?_ (fun b o q => ?_) (by simp) (fun b o q => Heap.get?_push_of_some _ (Heap.get?_push_of_some _ (k0 b o q))) ⟨⟨_, Heap.get?_push_of_some _ (Heap.get?_push_size _ rfl), rfl, rfl⟩, (tp.push _).push _⟩ (Heap.get?_push_size _ rfl) fun v h' tk p kp => ?_⟩
    · intro q
      rw [sz1, sz2] at q
      rcases List.mem_cons.mp q with q | q
      · exact absurd q (by intro z; exact absurd (Nat.succ.inj z) (Nat.succ_ne_self _))
      · have q := List.mem_singleton.mp q
        exact absurd q (by intro z; have : s.heap.objs.size + 2 = s.heap.objs.size := z; omega)
    · have lb := Heap.lt_size q
      rw [sz1, sz2]
      refine ⟨fun z => ?_, fun z => ?_⟩
      · have z := List.mem_singleton.mp z
        rw [z] at lb
        exact absurd lb (Nat.not_lt.mpr (Nat.le_succ _))
      · rw [z] at lb
        exact absurd lb (Nat.not_lt.mpr (Nat.le_add_right _ 2))
    · refine h v h' tk (by simpa using p) fun b o q => ?_
      have lb := Heap.lt_size q
      refine kp b o (fun z => ?_) (fun z => ?_) (Heap.get?_push_of_some _ (Heap.get?_push_of_some _ (k0 b o q)))
      · have z := List.mem_singleton.mp z
        rw [z, sz1] at lb
        exact absurd lb (Nat.not_lt.mpr (Nat.le_succ _))
      · rw [z, sz2] at lb
        exact absurd lb (Nat.not_lt.mpr (Nat.le_add_right _ 2))
end
end L3

namespace HT
open PySem PyProof.Rows
theorem rcGt_int (A : Around) (s : Shared) (a : Int) (t : Tok) (c : Int) (u : Tok) (prog : Program) (w : World) (E : Value → Shared → Prop) (Q : Value → Shared → Prop) (h : Q (.bool (decide (c < a))) s) :
    wpAny (model prog w) A (richCompare .Gt (.int a t) (.int c u)) Q E s :=
  (PyProof.Rows.gt_int h : wpAny (model prog w) A (compareOp .Gt (.int a t) (.int c u)) Q E s)
section
open PySem.SeqAt
open PySem.AutoSeq1 (wpAny_loadPart')
open PySem.MeetsSeq PySem.MeetsSeq2 PySem.MeetsSeq3
theorem tuple_gt_ints (l b : Addr) (items items2 : Array Value) (n n2 : Nat) (dd dd2 : Option Addr) (sl sl2 : Array (Option Value)) (ns ms : List Int) (hi : IntsAre items.toList ns) (hj : IntsAre items2.toList ms) :
    Meets (Builtin.«tuple.__gt__» ⟨[.ref l, .ref b], []⟩)
      (fun _ R s => s.heap.get? l = some { cls := .type "tuple", dict := dd, data := .seq items n, slots := sl } ∧ s.heap.get? b = some { cls := .type "tuple", dict := dd2, data := .seq items2 n2, slots := sl2 } ∧
        R (.ok (.ret (.bool (lexLt ms ns)))) s) :=
  .of_wp fun prog w A R s h => by
    obtain ⟨hp, g, d, tk, os⟩ := s; obtain ⟨hl, hb, h⟩ := h
    have f2 := AutoSeq1.sub_tuple_tuple
    have z1 : items.size = ns.length := by rw [← hi.length]; simp
    have z2 : items2.size = ms.length := by rw [← hj.length]; simp
    wp_walk using wpAny_loadPart' hl, wpAny_loadPart' hb, wpAny_forIn_list _ (fun rest b s' => b.1 = none ∧ s' = ⟨hp, g, d, tk, os⟩ ∧ ∃ (vs ws : List Value) (ns' ms' : List Int), rest = vs.zip ws ∧
      IntsAre vs ns' ∧ IntsAre ws ms' ∧ ns'.length + items2.size = ms'.length + items.size ∧ R (.ok (.ret (.bool (lexLt ms' ns')))) ⟨hp, g, d, tk, os⟩) _
    case turn =>
      rintro ⟨y, x⟩ rest b s' ⟨hb', rfl, vs, ws, ns', ms', hz, hvi, hwi, hlen, hR⟩
      cases hvi with
      | nil => rw [List.zip_nil_left] at hz; cases hz
      | cons a t hvi' =>
        cases hwi with
        | nil => rw [List.zip_nil_right] at hz; cases hz
        | cons c u hwi' =>
          rw [List.zip_cons_cons] at hz
          injection hz with hyx hrest
          injection hyx with hy hx
          subst hy hx
          rw [lexLt_cons] at hR
          simp only [List.length_cons] at hlen
          obtain ⟨e, he, hiff⟩ := eqAt_int A.in1 ⟨hp, g, d, tk, os⟩ a t c u
          refine wpAny_bind (he prog w _ _ ?_)
          cases e with
          | true =>
            rw [if_pos (hiff.mp rfl).symm] at hR
            wp_walk
            exact ⟨rfl, rfl, _, _, _, _, hrest, hvi', hwi', by omega, hR⟩
          | false =>
            rw [if_neg (fun q => absurd (hiff.mpr q.symm) Bool.false_ne_true)] at hR
            have hri := rcGt_int A.in1 ⟨hp, g, d, tk, os⟩ a t c u prog w
            wp_walk using hri
            exact ⟨_, rfl, by simpa using hR⟩
    case fin =>
      rintro ⟨b1, b2⟩ s' ⟨hb', rfl, vs, ws, ns', ms', hz, hvi, hwi, hlen, hR⟩
      simp only at hb'
      subst hb'
      have hv : lexLt ms' ns' = decide (items.size > items2.size) := by
        cases hvi with
        | nil =>
          cases hwi with
          | nil =>
            simp only [List.length_nil] at hlen
            rw [lexLt_nil_nil]
            exact (decide_eq_false (by omega)).symm
          | cons c u hw =>
            simp only [List.length_nil, List.length_cons] at hlen
            rw [lexLt_cons_nil]
            exact (decide_eq_false (by omega)).symm
        | cons a t hv =>
          cases hwi with
          | nil =>
            simp only [List.length_nil, List.length_cons] at hlen
            rw [lexLt_nil_cons]
            exact (decide_eq_true (by omega)).symm
          | cons c u hw =>
            rw [List.zip_cons_cons] at hz
            cases hz
      rw [hv] at hR
      wp_walk
      exact ⟨_, rfl, by simpa [Builtin.Tuple.tupleCompareSizes] using hR⟩
    case h =>
      exact ⟨rfl, rfl, items.toList, items2.toList, ns, ms, rfl, hi, hj, by omega, h⟩
end

section
variable {prog : Program} {w : World} {A : Around} {E : Value → Shared → Prop} {s : Shared}

theorem gt_tupInts {l b : Addr} {items items2 : Array Value} {ns ms : List Int} {Q : Value → Shared → Prop} (hl : IsTup s.heap l items) (hb : IsTup s.heap b items2) (hi : IntsAre items.toList ns) (hj : IntsAre items2.toList ms)
    (hu : A.units < cLine) (h : Q (.bool (lexLt ms ns)) s) : wpAny (model prog w) A (compareOp .Gt (.ref l) (.ref b)) Q E s := by
  obtain ⟨⟨cls, dd, data, sl⟩, ho, hc, n, hd⟩ := id hl
  obtain ⟨⟨cls2, dd2, data2, sl2⟩, ho2, hc2, n2, hd2⟩ := id hb
  simp only at hc hd hc2 hd2
  subst hc hd hc2 hd2
  exact richCompare_meets_room (op := .Gt) ⟨_, ho, rfl⟩ ⟨_, ho2, rfl⟩ PySem.F.slot_tuple_gt PySem.F.entry_tuple_gt (PySem.F.args_tuple_gt_2 _ _) (tuple_gt_ints l b items items2 n n2 dd dd2 sl sl2 ns ms hi hj)
    ⟨ho, ho2, show Value.bool (lexLt ms ns) ≠ Value.notImplemented ∧ Q (.bool (lexLt ms ns)) s from ⟨(fun x => nomatch x), h⟩⟩ hu
end
end HT

/-! Joined tests; min, max, sorted of places. -/
namespace L3
open PySem PySem.Spec PyProof.Rows L2
section
variable {X : Cx} {pos : Pos}
/-- if c: a, both ways met again at J -/
def tIfJ3 (c : TT3) (t : TS3) : TS3 := fun D ρ M => ∃ J : En → Mp → Prop, (c ρ M fun b M1 => if b = true then t { D with nx := fun ρ' M' => Hold (J ρ' M') } ρ M1 else Hold (J ρ M1)) ∧ ∀ ρ M, J ρ M → D.nx ρ M
theorem s_ifJ {c : Expr} {a : List Stmt} {tc : TT3} {t : TS3} (hc : PT3 X c tc) (ha : PSs3 X a t) : PS3 X (.If c a [] pos) (tIfJ3 tc t) := by
  constructor
  intro pins s σ H ρ M D I r ⟨J, q, hJ⟩
  refine thn ((s_if hc ha b_nil).run pins s σ H ρ M { D with nx := fun ρ' M' => Hold (J ρ' M') } I r q) fun f s' z => ?_
  cases f with
  | next => obtain ⟨σ', H', I', ρ', M', fr, r', p⟩ := z; exact ⟨σ', H', I', ρ', M', fr, r', hJ _ _ p.out⟩
  | brk => exact z
  | cont => exact z
  | ret u => exact z
/-- over a display of a list, the loop shut -/
def tForDH (t : TA3) (g : TG3) (tb : TS3) : TS3 := fun D ρ M => t ρ M fun xs M1 => xs.length ≤ sizeLine ∧ Hold (runFor (fun _ => True) g tb D xs ρ M1)
theorem s_forDH {tg : Expr} {body : List Stmt} {g : TG3} {tb : TS3} {es : List Expr} {t : TA3} {lpos : Pos} (hp : PassesOwn (model X.prog X.w) X.A X.env X.xe) (hc : X.calm = true) (hi : PA3 X es t) (hg : PG3 X tg g) (hb : PSs3 X body tb)
    (hs : ∀ x, foldedSetIterable (.List es lpos) X.env x = pure x := by intro _; rfl) : PS3 X (.For tg (.List es lpos) body [] pos) (tForDH t g tb) := upS (ps_for hp hc (pi_list (pe_lst hi.dn)) hg.dn hb.dn hs) fun σ H ρ M D r q => dnA_of r q fun vs H' ds M' f dv r' ⟨hl, q⟩ => by
  refine ⟨by rw [← dv.length]; exact hl, fun p hp => ⟨p, rfl, ⟨vs, SqL.of upd_same⟩, ?_⟩⟩
  have fr : Fr M' H' M' (upd H' p (.lst vs)) := Fr.new hp fun _ _ => rfl
  have r2 := r'.go fr (r'.mem.new hp)
  exact for_core itl_is (f.trans fr) r2 (fun M1 H1 f1 _ _ => ⟨vs, (f1 p _ (r'.mem.free hp) upd_same).1, Dats.mono ((Ext.new hp).trans (f1.ext r2.mem)) _ _ dv⟩) q.out
theorem lex_bef (p q : Pl) : HT.lexLt [p.x, p.y] [q.x, q.y] = decide (bef p q) := by
  rw [HT.lexLt_cons, HT.lexLt_cons, HT.lexLt_nil_nil]
  by_cases ex : p.x = q.x
  · rw [if_pos ex]
    by_cases ey : p.y = q.y
    · rw [if_pos ey]; exact (decide_eq_false (by unfold bef; omega)).symm
    · rw [if_neg ey, decide_eq_decide]; unfold bef; omega
  · rw [if_neg ex, decide_eq_decide]; unfold bef; omega
/-- a place among the values -/
theorem at2_of {P : Program} {w : World} {K : PySem.W.Frag} {H : Hp} {h : Heap} {p : Pl} {x : V} {u : Value} (ok : HOk P w H h) (d : Dat K H p.d x) (r : RelV x u) : At2 h u p := by
  obtain ⟨a, xs, rfl, ha, hx⟩ := dat_tup.mp d
  obtain rfl : u = Value.ref a := r
  obtain ⟨its, rv, ⟨o, h1, h2, n, h3⟩, _⟩ := tup_at ok ha
  obtain ⟨v1, v2, rfl, d1, d2⟩ := dats2 hx
  obtain rfl := dat_int.mp d1
  obtain rfl := dat_int.mp d2
  obtain ⟨u1, u2, rfl, ⟨t1, rfl⟩, ⟨t2, rfl⟩⟩ := vals2 rv
  exact ⟨a, o, t1, t2, n, rfl, h1, h2, h3⟩
theorem At2.tup {h : Heap} {v : Value} {p : Pl} (a : At2 h v p) : ∃ (l : Addr) (its : Array Value), v = .ref l ∧ IsTup h l its ∧ IntsAre its.toList [p.x, p.y] := by
  obtain ⟨b, o, t, u, n, h1, h2, h3, h4⟩ := a
  exact ⟨b, _, h1, ⟨o, h2, h3, n, h4⟩, .cons _ _ (.cons _ _ .nil)⟩
/-- the places that the values are -/
def PlsAt (h : Heap) : List Value → List Pl → Prop := Paired (At2 h)
theorem plsAt_of {P : Program} {w : World} {K : PySem.W.Frag} {H : Hp} {h : Heap} (ok : HOk P w H h) : ∀ {ps : List Pl} {xs : List V} {us : List Value}, Dats K H (ps.map Pl.d) xs → Vals xs us → PlsAt h us ps
  | [], xs, us, d, r => by rw [dats_nil.mp d] at r; cases r; exact .nil
  | p :: ps, xs, us, d, r => by
    obtain ⟨v, vs, rfl, d1, d2⟩ := dats_cons.mp d
    cases r with
    | cons r rr => exact .cons (at2_of ok d1 r) (plsAt_of ok d2 rr)
theorem PlsAt.get {h : Heap} : ∀ {us : List Value} {ps : List Pl} {i : Nat} {u : Value}, PlsAt h us ps → us[i]? = some u → ∃ p, ps[i]? = some p ∧ At2 h u p
  | _, _, i, u, .nil, e => by simp at e
  | _, _, i, u, .cons a r, e => by
    cases i with
    | zero => simp at e; subst e; exact ⟨_, rfl, a⟩
    | succ i => exact PlsAt.get (i := i) r (by simpa using e)
theorem Vals.len {xs : List V} {us : List Value} (r : Vals xs us) : us.length = xs.length := (Vals.length r).symm
/-- which of some places min, max take -/
def bestOf (lt : Pl → Pl → Bool) (ps : List Pl) (i j : Nat) : Bool := lt (ps.getD i ⟨0, 0⟩) (ps.getD j ⟨0, 0⟩)
def rBest (lt : Pl → Pl → Bool) : List D → Mp → DK → Prop := fun ds M Q => ∃ ps : List Pl, ds = ps.map Pl.d ∧ 2 ≤ ps.length ∧ ps.length ≤ 4 ∧ Q (ps.getD (argBest (bestOf lt ps) (ps.length - 1)) ⟨0, 0⟩).d M
theorem argBest_le (bt : Nat → Nat → Bool) : ∀ n, argBest bt n ≤ n
  | 0 => Nat.le_refl 0
  | n + 1 => by
    unfold argBest
    split
    · exact Nat.le_refl _
    · exact Nat.le_succ_of_le (argBest_le bt n)
theorem min_ok : ∀ (vs : List Value), 2 ≤ vs.length → vs.length ≤ 4 → argsOk "min" ⟨vs, []⟩ := by
  intro vs h2 h4
  match vs, h2, h4 with
  | [a, b], _, _ => unfold argsOk; kernel_rfl
  | [a, b, c], _, _ => unfold argsOk; kernel_rfl
  | [a, b, c, d], _, _ => unfold argsOk; kernel_rfl
theorem max_ok : ∀ (vs : List Value), 2 ≤ vs.length → vs.length ≤ 4 → argsOk "max" ⟨vs, []⟩ := by
  intro vs h2 h4
  match vs, h2, h4 with
  | [a, b], _, _ => unfold argsOk; kernel_rfl
  | [a, b, c], _, _ => unfold argsOk; kernel_rfl
  | [a, b, c, d], _, _ => unfold argsOk; kernel_rfl
theorem c_minP (hu : X.A.units + 64 < cLine) (hc : X.calm = true) : Call3 X (.builtin "min") (rBest fun p q => decide (bef p q)) := by
  constructor
  intro pins s σ H M xs ds us Q I rm rs dx ⟨ps, e, h2, h4, q⟩
  subst e
  have hl : us.length = ps.length := by rw [Vals.len rs, ← dx.length, List.length_map]
  have hp := plsAt_of I.hok dx rs
  refine min_many (min_ok us (by omega) (by omega)) (by omega) (by omega) (I.ok.hd hc) (bt := bestOf (fun p q => decide (bef p q)) ps) (fun i j vi vj t Q E g e1 e2 q => ?_) fun v h' tk e g => ?_
  · obtain ⟨p1, f1, a1⟩ := hp.get e1
    obtain ⟨p2, f2, a2⟩ := hp.get e2
    obtain ⟨l1, i1, rfl, t1, n1⟩ := (a1.grow g).tup
    obtain ⟨l2, i2, rfl, t2, n2⟩ := (a2.grow g).tup
    have eb : bestOf (fun p q => decide (bef p q)) ps i j = decide (bef p1 p2) := by unfold bestOf; rw [List.getD_eq_getElem?_getD, List.getD_eq_getElem?_getD, f1, f2]; rfl
    rw [eb, ← lex_bef] at q
    exact (HT.lt_tupInts t1 t2 n1 n2 (by show X.A.units + 1 < cLine; omega) q : wpAny (model X.prog X.w) X.A.in1 (compareOp .Lt (.ref l1) (.ref l2)) Q E t)
  · rw [hl] at e
    obtain ⟨x, ex, rx⟩ : ∃ x, xs[argBest (bestOf (fun p q => decide (bef p q)) ps) (ps.length - 1)]? = some x ∧ RelV x v := by
      have lt : argBest (bestOf (fun p q => decide (bef p q)) ps) (ps.length - 1) < xs.length := by
        have := argBest_le (bestOf (fun p q => decide (bef p q)) ps) (ps.length - 1)
        rw [← dx.length, List.length_map]; omega
      obtain ⟨u, eu, ru⟩ := Vals.get rs (List.getElem?_eq_getElem lt)
      rw [e] at eu
      cases eu
      exact ⟨_, List.getElem?_eq_getElem lt, ru⟩
    obtain ⟨d, ed, dd⟩ := dx.back ex
    rw [List.getElem?_map] at ed
    have eq : d = (ps.getD (argBest (bestOf (fun p q => decide (bef p q)) ps) (ps.length - 1)) ⟨0, 0⟩).d := by
      rw [List.getD_eq_getElem?_getD]
      cases z : ps[argBest (bestOf (fun p q => decide (bef p q)) ps) (ps.length - 1)]? with
      | none => rw [z] at ed; cases ed
      | some p => rw [z] at ed; cases ed; rfl
    subst eq
    exact ⟨x, H, I.kept g, rx, post_self rm dd q⟩
theorem c_maxP (hu : X.A.units + 64 < cLine) (hc : X.calm = true) : Call3 X (.builtin "max") (rBest fun p q => decide (bef q p)) := by
  constructor
  intro pins s σ H M xs ds us Q I rm rs dx ⟨ps, e, h2, h4, q⟩
  subst e
  have hl : us.length = ps.length := by rw [Vals.len rs, ← dx.length, List.length_map]
  have hp := plsAt_of I.hok dx rs
  refine max_many (max_ok us (by omega) (by omega)) (by omega) (by omega) (I.ok.hd hc) (bt := bestOf (fun p q => decide (bef q p)) ps) (fun i j vi vj t Q E g e1 e2 q => ?_) fun v h' tk e g => ?_
  · obtain ⟨p1, f1, a1⟩ := hp.get e1
    obtain ⟨p2, f2, a2⟩ := hp.get e2
    obtain ⟨l1, i1, rfl, t1, n1⟩ := (a1.grow g).tup
    obtain ⟨l2, i2, rfl, t2, n2⟩ := (a2.grow g).tup
    have eb : bestOf (fun p q => decide (bef q p)) ps i j = decide (bef p2 p1) := by unfold bestOf; rw [List.getD_eq_getElem?_getD, List.getD_eq_getElem?_getD, f1, f2]; rfl
    rw [eb, ← lex_bef] at q
    exact (HT.gt_tupInts t1 t2 n1 n2 (by show X.A.units + 1 < cLine; omega) q : wpAny (model X.prog X.w) X.A.in1 (compareOp .Gt (.ref l1) (.ref l2)) Q E t)
  · rw [hl] at e
    obtain ⟨x, ex, rx⟩ : ∃ x, xs[argBest (bestOf (fun p q => decide (bef q p)) ps) (ps.length - 1)]? = some x ∧ RelV x v := by
      have lt : argBest (bestOf (fun p q => decide (bef q p)) ps) (ps.length - 1) < xs.length := by
        have := argBest_le (bestOf (fun p q => decide (bef q p)) ps) (ps.length - 1)
        rw [← dx.length, List.length_map]; omega
      obtain ⟨u, eu, ru⟩ := Vals.get rs (List.getElem?_eq_getElem lt)
      rw [e] at eu
      cases eu
      exact ⟨_, List.getElem?_eq_getElem lt, ru⟩
    obtain ⟨d, ed, dd⟩ := dx.back ex
    rw [List.getElem?_map] at ed
    have eq : d = (ps.getD (argBest (bestOf (fun p q => decide (bef q p)) ps) (ps.length - 1)) ⟨0, 0⟩).d := by
      rw [List.getD_eq_getElem?_getD]
      cases z : ps[argBest (bestOf (fun p q => decide (bef q p)) ps) (ps.length - 1)]? with
      | none => rw [z] at ed; cases ed
      | some p => rw [z] at ed; cases ed; rfl
    subst eq
    exact ⟨x, H, I.kept g, rx, post_self rm dd q⟩
/-- min, max of two places -/
def rLo : List D → Mp → DK → Prop := fun ds M Q => ∃ p q : Pl, ds = [p.d, q.d] ∧ Q (lo p q).d M
def rHi : List D → Mp → DK → Prop := fun ds M Q => ∃ p q : Pl, ds = [p.d, q.d] ∧ Q (hi p q).d M
theorem Call3.imp {f : Value} {r r' : List D → Mp → DK → Prop} (h : Call3 X f r) (g : ∀ ds M Q, r' ds M Q → r ds M Q) : Call3 X f r' :=
  ⟨fun pins s σ H M xs ds us Q I rm rs dx q => h.run pins s σ H M xs ds us Q I rm rs dx (g _ _ _ q)⟩
theorem c_lo (hu : X.A.units + 64 < cLine) (hc : X.calm = true) : Call3 X (.builtin "min") rLo := (c_minP hu hc).imp fun ds M Q ⟨p, q, e, h⟩ => by
  refine ⟨[p, q], e, Nat.le_refl 2, Nat.le_add_right 2 2, ?_⟩
  have e : [p, q].getD (argBest (bestOf (fun p q => decide (bef p q)) [p, q]) ([p, q].length - 1)) ⟨0, 0⟩ = lo p q := by
    have a : argBest (bestOf (fun p q => decide (bef p q)) [p, q]) ([p, q].length - 1) = if decide (bef q p) = true then 1 else 0 := rfl
    rw [a]
    unfold lo
    by_cases c : bef q p
    · rw [if_pos c, if_pos (decide_eq_true c)]; rfl
    · rw [if_neg c, if_neg (fun z => c (of_decide_eq_true z))]; rfl
  rw [e]; exact h
theorem c_hi (hu : X.A.units + 64 < cLine) (hc : X.calm = true) : Call3 X (.builtin "max") rHi := (c_maxP hu hc).imp fun ds M Q ⟨p, q, e, h⟩ => by
  refine ⟨[p, q], e, Nat.le_refl 2, Nat.le_add_right 2 2, ?_⟩
  have e : [p, q].getD (argBest (bestOf (fun p q => decide (bef q p)) [p, q]) ([p, q].length - 1)) ⟨0, 0⟩ = hi p q := by
    have a : argBest (bestOf (fun p q => decide (bef q p)) [p, q]) ([p, q].length - 1) = if decide (bef p q) = true then 1 else 0 := rfl
    rw [a]
    unfold hi
    by_cases c : bef p q
    · rw [if_pos c, if_pos (decide_eq_true c)]; rfl
    · rw [if_neg c, if_neg (fun z => c (of_decide_eq_true z))]; rfl
  rw [e]; exact h
/-! ### sorted -/
noncomputable def pkey (h : Heap) (v : Value) : Pl := Option.getD (α := Pl) ((kPl h).keyOf v) ⟨0, 0⟩
theorem pkey_at {h : Heap} {v : Value} {p : Pl} (a : At2 h v p) : pkey h v = p := by
  unfold pkey
  have e : (kPl h).keyOf v = some p := kPl_key a
  exact congrArg (fun o => Option.getD (α := Pl) o ⟨0, 0⟩) e
theorem PlsAt.keys {h : Heap} : ∀ {us : List Value} {ps : List Pl}, PlsAt h us ps → us.map (pkey h) = ps
  | _, _, .nil => rfl
  | _, _, .cons a r => by rw [List.map_cons, pkey_at a, PlsAt.keys r]
theorem PlsAt.mem {h : Heap} : ∀ {us : List Value} {ps : List Pl} {v : Value}, PlsAt h us ps → v ∈ us → ∃ p, At2 h v p
  | _, _, v, .nil, m => by cases m
  | _, _, v, .cons a r, m => by
    rcases List.mem_cons.mp m with rfl | m
    · exact ⟨_, a⟩
    · exact PlsAt.mem r m
theorem zip_self_mem {α : Type} : ∀ {vs : List α} {p : α × α}, p ∈ vs.zip vs → p.1 = p.2 ∧ p.1 ∈ vs
  | [], p, m => by simp at m
  | v :: vs, p, m => by
    rw [List.zip_cons_cons] at m
    rcases List.mem_cons.mp m with rfl | m
    · exact ⟨rfl, List.mem_cons_self ..⟩
    · exact ⟨(zip_self_mem m).1, List.mem_cons_of_mem _ (zip_self_mem m).2⟩
theorem sorted_places {P : Program} {w : World} {A : Around} {E : Value → Shared → Prop} {s : Shared} {l : Addr} {vs : List Value} {ps : List Pl} {Q : Value → Shared → Prop} (hl : s.heap.IsList l vs.toArray) (hv : PlsAt s.heap vs ps) (h64 : vs.length < 64)
    (h : ∀ (out : List Value) (qs : List Pl), (∀ v ∈ out, v ∈ vs) → qs = out.map (pkey s.heap) → qs.Perm ps → qs.Pairwise (fun p q => ¬ bef q p) → Q (.ref (s.heap.objs.size + 1)) { s with heap := sortedAll s.heap vs out.toArray }) :
    wpAny (model P w) A (call (.builtin "sorted") [.ref l]) Q E s := by
  have hk : KeysOf (kPl s.heap) (pairsOf vs) := fun p hp => by
    rw [pairsOf_toList] at hp
    obtain ⟨q, a⟩ := hv.mem (zip_self_mem hp).2
    exact ⟨q, kPl_key a⟩
  refine sorted_by (κ := kPl s.heap) (kd := tuples' true) hl hk (fun t E Q g h2 q => kind_pl (by omega) (fun v m => ?_) q) (fun t g => ask_pl g true) h64 fun y hp hs => ?_
  · obtain ⟨p, a⟩ := hv.mem m
    exact ⟨p, a.grow g⟩
  · have pl : y.toList.Perm (vs.zip vs) := by rw [← pairsOf_toList]; exact Array.perm_iff_toList_perm.mp hp
    have same : ∀ p ∈ y.toList, p.1 = p.2 ∧ p.1 ∈ vs := fun p m => zip_self_mem (pl.mem_iff.mp m)
    have eo : y.map (·.2) = (y.toList.map (·.2)).toArray := by rw [← Array.toList_map, Array.toArray_toList]
    rw [eo]
    refine h (y.toList.map (·.2)) _ (fun v m => ?_) rfl ?_ ?_
    · obtain ⟨p, m2, rfl⟩ := List.mem_map.mp m
      rw [← (same p m2).1]; exact (same p m2).2
    · have q := (pl.map (fun p => p.2)).map (pkey s.heap)
      have e : (vs.zip vs).map (fun p => p.2) = vs := List.map_snd_zip (Nat.le_refl _)
      rw [e, hv.keys] at q
      exact q
    · rw [List.pairwise_iff_getElem]
      intro i j hi hj hij
      have li : i < y.size := by simpa using hi
      have lj : j < y.size := by simpa using hj
      have q := hs i j (Nat.le_of_lt hij) (by rw [← hp.size_eq]; exact lj)
      have key : ∀ k (hk : k < y.size), KK (kPl s.heap) y k = pkey s.heap y[k].2 := fun k hk => by
        unfold KK
        rw [getElem?_pos y k hk]
        show Option.getD (α := Pl) ((kPl s.heap).keyOf y[k].1) ⟨0, 0⟩ = _
        rw [(same y[k] (by simp)).1]
        rfl
      have q : (kPl s.heap).blt (KK (kPl s.heap) y j) (KK (kPl s.heap) y i) = false := q
      rw [key i li, key j lj] at q
      have q : decide (bef (pkey s.heap y[j].2) (pkey s.heap y[i].2)) = false := q
      simpa using of_decide_eq_false q
/-- sorted(xs) of places -/
def rSorted : List D → Mp → DK → Prop := fun ds M Q => ∃ (l : Addr) (ps : List Pl), ds = [.ref l] ∧ M l = some (.lst (ps.map Pl.d)) ∧ ps.length < 64 ∧ ∀ (p : Addr) (qs : List Pl), M p = none → qs.Perm ps → qs.Pairwise (fun p q => ¬ bef q p) → Q (.ref p) (updM M p (.lst (qs.map Pl.d)))
theorem dats_pick {K : PySem.W.Frag} {H : Hp} {h : Heap} {P : Program} {w : World} (ok : HOk P w H h) {ps : List Pl} {zs : List V} {vs : List Value} (d : Dats K H (ps.map Pl.d) zs) (r : Vals zs vs) : ∀ (out : List Value), (∀ v ∈ out, v ∈ vs) →
    ∃ ws, Vals ws out ∧ Dats K H ((out.map (pkey h)).map Pl.d) ws
  | [], _ => ⟨[], .nil, dats_nil.mpr rfl⟩
  | v :: out, m => by
    obtain ⟨ws, h1, h2⟩ := dats_pick ok d r out fun u hu => m u (List.mem_cons_of_mem _ hu)
    have one : ∀ {ps : List Pl} {zs : List V} {vs : List Value}, Dats K H (ps.map Pl.d) zs → Vals zs vs → v ∈ vs → ∃ (p : Pl) (x : V), RelV x v ∧ Dat K H p.d x := by
      intro ps
      induction ps with
      | nil => intro zs vs d r m; rw [dats_nil.mp d] at r; cases r; cases m
      | cons p ps ih =>
        intro zs vs d r m
        obtain ⟨x, xs, rfl, d1, d2⟩ := dats_cons.mp d
        cases r with
        | cons r1 r2 =>
          rcases List.mem_cons.mp m with rfl | m
          · exact ⟨p, x, r1, d1⟩
          · exact ih d2 r2 m
    obtain ⟨p, x, rx, dx⟩ := one d r (m v (List.mem_cons_self ..))
    refine ⟨x :: ws, .cons rx h1, ?_⟩
    rw [List.map_cons, List.map_cons, pkey_at (at2_of ok dx rx)]
    exact dats_cons.mpr ⟨x, ws, rfl, dx, h2⟩
theorem c_sorted : Call3 X (.builtin "sorted") rSorted := by
  constructor
  intro pins s σ H M xs ds us Q I rm rs dx ⟨l, ps, e, hM, h64, q⟩
  subst e
  obtain ⟨v, rfl, hv⟩ := dats1 dx
  obtain rfl := dat_ref.mp hv
  obtain ⟨u, rfl, r1⟩ := vals1 rs
  obtain rfl : u = Value.ref l := r1
  obtain ⟨zs, hH, hz⟩ := rm.lst hM
  obtain ⟨its, rv, pl, hsz⟩ := I.list (SqL.of (K := X.K) hH)
  have hl : its.length = ps.length := by rw [Vals.len rv, ← hz.length, List.length_map]
  refine sorted_places pl.isList (plsAt_of I.hok hz rv) (by omega) fun out qs hm eq hp hs => ?_
  obtain ⟨ws, w1, w2⟩ := dats_pick I.hok hz rv out hm
  rw [← eq] at w2
  obtain ⟨n, hn⟩ := sortedAll_at s.heap its out.toArray
  have fr : H (s.heap.objs.size + 1) = none := I.hok.fresh (Nat.le_succ _)
  have zw : ws.length ≤ sizeLine := by
    rw [← w2.length, List.length_map, hp.length_eq, sizeLine_eq]; omega
  refine ⟨.ref (s.heap.objs.size + 1), upd H (s.heap.objs.size + 1) (.lst ws), I.laid (t' := s.toks) (fun b o e => sortedAll_old e) (Nat.le_succ _) ⟨zw, out, n, w1, hn⟩, rfl, .ref _, updM M _ (.lst (qs.map Pl.d)), Fr.new fr fun _ hb => updM_ne hb, dat_ref.mpr rfl, rm.newL fr w2, q _ _ (rm.free fr) hp hs⟩
end
end L3

/-! the steps of a reading -/
local macro_rules | `(tactic| walk_at "sm") => `(tactic| first | assumption | exact L3.Sm.sign _ | exact L3.Sm.zero | exact L3.Sm.one | exact L3.Sm.two | ((with_reducible apply L3.Sm.mul) <;> walk_at "sm") | ((with_reducible apply L3.Sm.sub) <;> walk_at "sm") | ((with_reducible apply L3.Sm.add) <;> walk_at "sm") | ((with_reducible apply L3.Sm.neg) <;> walk_at "sm") | ((with_reducible apply L3.Sm.abs) <;> walk_at "sm") | ((with_reducible apply L3.Sm.emod); (first | omega | decide +kernel); walk_at "sm") | exact L3.Sm.lit _)
local macro_rules | `(tactic| walk_at "mulok") => `(tactic| (apply L3.MulOk.of; walk_at "sm"; walk_at "sm"; first | omega | decide +kernel))
local macro_rules | `(tactic| walk_at "rd1") => `(tactic| first | refine ⟨_, rfl, ?_⟩ | refine ⟨_, _, rfl, rfl, ?_⟩ | refine ⟨_, _, _, Or.inl rfl, rfl, rfl, ?_⟩ | (refine ⟨?side, ?_⟩; (case side => first | walk_at "mulok" | (simp only [List.length_cons, List.length_nil]; decide) | (show (0 : Int) < _; first | omega | (dsimp only; omega) | decide +kernel) | (show (0 : Int) ≤ _; first | omega | (dsimp only; omega)) | exact ⟨by decide +kernel, by decide +kernel, by decide +kernel⟩ | exact ⟨by decide +kernel, _, L3.Sm.lit _, by decide +kernel⟩ | (left; walk_at "mulok") | exact Or.inr (Or.inr ⟨by decide, by decide⟩) | decide)) | refine ⟨rfl, ?_⟩ | refine ⟨trivial, ?_⟩ | refine ⟨_, Or.inl rfl, rfl, ?_⟩ | refine ⟨_, _, rfl, Or.inl rfl, ?_⟩ | refine ⟨_, _, _, _, rfl, L3.Ty3.int _, L3.kit_same, ?_⟩ | refine ⟨_, _, _, _, rfl, L3.Ty3.tup _, L3.kit_same, ?_⟩ | refine ⟨_, _, _, _, rfl, L3.Ty3.bl _, L3.kit_same, ?_⟩ | refine ⟨_, _, rfl, ?_⟩ | refine ⟨_, _, _, rfl, ?_⟩ | refine ⟨_, _, _, _, rfl, ?_⟩)
local macro_rules | `(tactic| walk_at "rd") => `(tactic| repeat walk_at "rd1")
local macro_rules | `(tactic| walk_at "smle") => `(tactic| (apply L3.Sm.le; walk_at "sm"; first | omega | decide +kernel))
local macro_rules | `(tactic| walk_at "om") => `(tactic| first | omega | (dsimp only; omega))

namespace L3
open PySem L2
theorem tw_sm {a b c : Pl} (ha : a.Ok 140) (hb : b.Ok 140) (hc : c.Ok 140) : Sm 290 (tw a b c) := by
  obtain ⟨a1, a2⟩ := ha
  obtain ⟨b1, b2⟩ := hb
  obtain ⟨c1, c2⟩ := hc
  unfold tw
  walk_at "smle"
theorem apt_sm {p q : Pl} (hp : p.Ok 140) (hq : q.Ok 140) : Sm 290 (apt p q) := by
  obtain ⟨p1, p2⟩ := hp
  obtain ⟨q1, q2⟩ := hq
  unfold apt
  walk_at "smle"
theorem md_ok {a b c : Pl} (ha : a.Ok 140) (hb : b.Ok 140) (hc : c.Ok 140) (hn : tw a b c ≠ 0) : (mdF a b c).Ok 1100 ∧ (mdG a b c).Ok 1100 := by
  have st := tw_sm ha hb hc
  have s1 := apt_sm ha hb
  have s2 := apt_sm ha hc
  obtain ⟨a1, a2⟩ := ha
  obtain ⟨b1, b2⟩ := hb
  obtain ⟨c1, c2⟩ := hc
  have x : Sm 1100 (mdX a b c) := by unfold mdX mdR; walk_at "smle"
  have y : Sm 1100 (mdY a b c) := by unfold mdY mdU; walk_at "smle"
  have t : Sm 1100 (2 * tw a b c) := by walk_at "smle"
  obtain ⟨_, _, _, p4, p5⟩ := frac_spec (a := mdX a b c) (b := 2 * tw a b c) (by omega)
  obtain ⟨_, _, _, q4, q5⟩ := frac_spec (a := mdY a b c) (b := 2 * tw a b c) (by omega)
  unfold mdF mdG
  exact ⟨⟨x.of_abs p4, t.of_abs p5⟩, ⟨y.of_abs q4, t.of_abs q5⟩⟩
theorem inD3 (a b c d : Pl) : inD d.d [a.d, b.d, c.d] = decide (d = a ∨ d = b ∨ d = c) := by
  unfold inD
  rw [List.any_cons, List.any_cons, List.any_cons, List.any_nil, eqD_Pl, eqD_Pl, eqD_Pl, Bool.or_false, Bool.eq_iff_iff]
  simp only [Bool.or_eq_true, decide_eq_true_eq]
  grind
theorem three_of {α : Type} {qs : List α} (h : qs.length = 3) : ∃ u v w, qs = [u, v, w] := by
  match qs, h with
  | [u, v, w], _ => exact ⟨u, v, w, rfl⟩
theorem perm2 {α : Type} {v w b c : α} (h : [v, w].Perm [b, c]) : (v = b ∧ w = c) ∨ (v = c ∧ w = b) := by
  have m : v ∈ [b, c] := h.mem_iff.mp (by simp)
  rcases List.mem_cons.mp m with rfl | m
  · exact .inl ⟨rfl, by have := (List.perm_cons v).mp h; simpa using this⟩
  · have := List.mem_singleton.mp m
    subst this
    have h2 := (List.perm_cons v).mp (h.trans (List.Perm.swap v b []))
    exact .inr ⟨rfl, by simpa using h2⟩
theorem perm3 {α : Type} {u v w a b c : α} (h : [u, v, w].Perm [a, b, c]) : (u = a ∧ v = b ∧ w = c) ∨ (u = a ∧ v = c ∧ w = b) ∨ (u = b ∧ v = a ∧ w = c) ∨ (u = b ∧ v = c ∧ w = a) ∨ (u = c ∧ v = a ∧ w = b) ∨ (u = c ∧ v = b ∧ w = a) := by
  have m : u ∈ [a, b, c] := h.mem_iff.mp (by simp)
  rcases List.mem_cons.mp m with rfl | m
  · rcases perm2 ((List.perm_cons u).mp h) with ⟨e1, e2⟩ | ⟨e1, e2⟩
    · exact .inl ⟨rfl, e1, e2⟩
    · exact .inr (.inl ⟨rfl, e1, e2⟩)
  · rcases List.mem_cons.mp m with rfl | m
    · have h2 := (List.perm_cons u).mp (h.trans (List.Perm.swap u a [c]))
      rcases perm2 h2 with ⟨e1, e2⟩ | ⟨e1, e2⟩
      · exact .inr (.inr (.inl ⟨rfl, e1, e2⟩))
      · exact .inr (.inr (.inr (.inl ⟨rfl, e1, e2⟩)))
    · have := List.mem_singleton.mp m
      subst this
      have h2 := (List.perm_cons u).mp (h.trans ((List.Perm.cons a (List.Perm.swap u b [])).trans (List.Perm.swap u a [b])))
      rcases perm2 h2 with ⟨e1, e2⟩ | ⟨e1, e2⟩
      · exact .inr (.inr (.inr (.inr (.inl ⟨rfl, e1, e2⟩))))
      · exact .inr (.inr (.inr (.inr (.inr ⟨rfl, e1, e2⟩))))
theorem ok_perm3 {n : Nat} {u v w a b c : Pl} (h : [u, v, w].Perm [a, b, c]) (ha : a.Ok n) (hb : b.Ok n) (hc : c.Ok n) : u.Ok n ∧ v.Ok n ∧ w.Ok n := by
  rcases perm3 h with ⟨rfl, rfl, rfl⟩ | ⟨rfl, rfl, rfl⟩ | ⟨rfl, rfl, rfl⟩ | ⟨rfl, rfl, rfl⟩ | ⟨rfl, rfl, rfl⟩ | ⟨rfl, rfl, rfl⟩ <;> exact ⟨by assumption, by assumption, by assumption⟩
theorem Spo_perm {u v w a b c d : Pl} (h : [u, v, w].Perm [a, b, c]) : Spo u v w d ↔ Spo a b c d := by
  rcases perm3 h with ⟨rfl, rfl, rfl⟩ | ⟨rfl, rfl, rfl⟩ | ⟨rfl, rfl, rfl⟩ | ⟨rfl, rfl, rfl⟩ | ⟨rfl, rfl, rfl⟩ | ⟨rfl, rfl, rfl⟩
  · exact Iff.rfl
  · exact Spo_mid _ _ _ _
  · exact Spo_swap _ _ _ _
  · exact Spo_rot _ _ _ _
  · exact (Spo_rot _ _ _ _).trans (Spo_rot _ _ _ _)
  · exact (Spo_swap _ _ _ _).trans (Spo_rot _ _ _ _)
theorem rg_perm {u v w a b c d : Pl} (h : [u, v, w].Perm [a, b, c]) : rg u v w d = rg a b c d := by
  have mid : ∀ a b c d, rg a c b d = rg a b c d := fun a b c d => by rw [← rg_rot a c b d, rg_swap b c a d, rg_rot]
  rcases perm3 h with ⟨rfl, rfl, rfl⟩ | ⟨rfl, rfl, rfl⟩ | ⟨rfl, rfl, rfl⟩ | ⟨rfl, rfl, rfl⟩ | ⟨rfl, rfl, rfl⟩ | ⟨rfl, rfl, rfl⟩
  · rfl
  · exact mid _ _ _ _
  · exact rg_swap _ _ _ _
  · exact rg_rot _ _ _ _
  · exact (rg_rot _ _ _ _).trans (rg_rot _ _ _ _)
  · exact (rg_swap _ _ _ _).trans (rg_rot _ _ _ _)
theorem spo_least {a b c d u v w : Pl} (hn : tw a b c ≠ 0) (h0 : rg a b c d = 0) (hd : ¬ (d = a ∨ d = b ∨ d = c)) (hp : [u, v, w].Perm [a, b, c]) (s1 : ¬ bef v u) (s2 : ¬ bef w u) :
    decide (Spo a b c d) = if bef d u then true else decide ((tw v w d).sign ≠ (tw v w u).sign) := by
  have nab : a ≠ b := fun e => by subst e; rw [tw_same1] at hn; exact hn rfl
  have nac : a ≠ c := fun e => by subst e; rw [tw_same3] at hn; exact hn rfl
  have nbc : b ≠ c := fun e => by subst e; rw [tw_same2] at hn; exact hn rfl
  have ho : (u ≠ v ∧ u ≠ w) ∧ (d ≠ u ∧ d ≠ v ∧ d ≠ w) := by
    rcases perm3 hp with ⟨rfl, rfl, rfl⟩ | ⟨rfl, rfl, rfl⟩ | ⟨rfl, rfl, rfl⟩ | ⟨rfl, rfl, rfl⟩ | ⟨rfl, rfl, rfl⟩ | ⟨rfl, rfl, rfl⟩ <;> grind
  obtain ⟨⟨n1, n2⟩, e1, e2, e3⟩ := ho
  have b1 : bef u v := by rcases bef_or n1 with z | z; exact z; exact absurd z s1
  have b2 : bef u w := by rcases bef_or n2 with z | z; exact z; exact absurd z s2
  have e : decide (Spo a b c d) = decide (Spo u v w d) := by rw [decide_eq_decide]; exact (Spo_perm hp).symm
  rw [e]
  have h1 : rg u v w d = 0 := by rw [rg_perm hp]; exact h0
  by_cases k : bef d u
  · rw [if_pos k]
    exact decide_eq_true (.inr ⟨h1, e1, e2, e3, .inl ⟨k, bef_trans k b1, bef_trans k b2⟩⟩)
  · rw [if_neg k, decide_eq_decide]
    have k2 : bef u d := by rcases bef_or e1 with z | z; exact absurd z k; exact z
    unfold Spo
    rw [h1]
    constructor
    · rintro (z | ⟨_, _, _, _, z | z | z | z⟩)
      · cases z
      · exact absurd z.1 k
      · exact z.2.2.2
      · exact absurd z.1 s1
      · exact absurd z.1 s2
    · intro z
      exact .inr ⟨rfl, e1, e2, e3, .inr (.inl ⟨b1, b2, k2, z⟩)⟩
theorem spo_sorted {a b c d u v w : Pl} (hn : tw a b c ≠ 0) (h0 : rg a b c d = 0) (hd : ¬ (d = a ∨ d = b ∨ d = c)) (hp : [u, v, w].Perm [a, b, c]) (hs : [u, v, w].Pairwise (fun p q => ¬ bef q p)) :
    decide (Spo a b c d) = if bef d u then true else decide ((tw v w d).sign ≠ (tw v w u).sign) :=
  spo_least hn h0 hd hp ((List.pairwise_cons.mp hs).1 v (by simp)) ((List.pairwise_cons.mp hs).1 w (by simp))
instance (p q r s : Pl) : Decidable (Unl p q r s) := inferInstanceAs (Decidable (_ ∨ _))
theorem ne_dec (i j : Int) : (!eqD (.int i) (.int j)) = decide (i ≠ j) := by
  rw [eqD_int, Bool.eq_iff_iff]
  simp
theorem unl_iff (p q r s : Pl) : decide (Unl p q r s) = decide ((tw p q r).sign * (tw p q s).sign < 0) := by
  rw [decide_eq_decide]
  unfold Unl
  rcases sign_cases (tw p q r) with ⟨h1, e1⟩ | ⟨h1, e1⟩ | ⟨h1, e1⟩ <;> rcases sign_cases (tw p q s) with ⟨h2, e2⟩ | ⟨h2, e2⟩ | ⟨h2, e2⟩ <;> rw [e1, e2] <;> omega
theorem ne_bl {p q : Prop} [Decidable p] [Decidable q] (h : p ↔ q) : ¬ ((!eqD (.bl (decide p)) (.bl (decide q))) = true) := by
  rw [eqD_bl, decide_eq_decide.mpr h, beq_self_eq_true]; decide
theorem eq_bl {p q : Prop} [Decidable p] [Decidable q] (h : p ↔ ¬ q) : ¬ (eqD (.bl (decide p)) (.bl (decide q)) = true) := by
  rw [eqD_bl]
  intro z
  have z := eq_of_beq z
  have := decide_eq_decide.mp z
  by_cases hq : q
  · exact (h.mp (this.mpr hq)) hq
  · exact hq (this.mp (h.mpr hq))
theorem within_eq (a b c d : Pl) : rg a b c d = ((((a.x - d.x) * (a.x - d.x) + (a.y - d.y) * (a.y - d.y)) * tw d b c + ((b.x - d.x) * (b.x - d.x) + (b.y - d.y) * (b.y - d.y)) * tw a d c + ((c.x - d.x) * (c.x - d.x) + (c.y - d.y) * (c.y - d.y)) * tw a b d).sign) * (tw a b c).sign := by
  unfold rg dep apt
  rw [Int.mul_comm, tw_rot a d c, ← tw_rot d a b]
theorem iteY {c A B : Prop} [Decidable c] (h : c) (a : A) : if c then A else B := by rw [if_pos h]; exact a
theorem iteN {c A B : Prop} [Decidable c] (h : ¬ c) (b : B) : if c then A else B := by rw [if_neg h]; exact b
theorem ne_pl {p q : Pl} (h : p ≠ q) : (!eqD p.d q.d) = true := by rw [eqD_Pl, decide_eq_false h]; rfl
theorem ne_pl_self (p : Pl) : ¬ ((!eqD p.d p.d) = true) := by rw [eqD_Pl, decide_eq_true rfl]; decide
theorem lo_is (p q : Pl) : (lo p q = p ∨ lo p q = q) ∧ ¬ bef p (lo p q) ∧ ¬ bef q (lo p q) := by
  unfold lo
  by_cases c : bef q p
  · rw [if_pos c]; exact ⟨.inr rfl, bef_asymm c, bef_irrefl q⟩
  · rw [if_neg c]; exact ⟨.inl rfl, bef_irrefl p, c⟩
theorem nbef_trans {p q r : Pl} (h1 : ¬ bef p q) (h2 : ¬ bef q r) : ¬ bef p r := fun z => by
  rcases bef_tri q p with t | t | t
  · exact h2 (bef_trans t z)
  · subst t; exact h2 z
  · exact h1 t
theorem best4 (a b c d : Pl) : [a, b, c, d].getD (argBest (bestOf (fun p q => decide (bef p q)) [a, b, c, d]) ([a, b, c, d].length - 1)) ⟨0, 0⟩ = lo (lo (lo a b) c) d := by
  have e : argBest (bestOf (fun p q => decide (bef p q)) [a, b, c, d]) ([a, b, c, d].length - 1) = argBest (bestOf (fun p q => decide (bef p q)) [a, b, c, d]) 3 := rfl
  rw [e]
  unfold argBest argBest argBest argBest bestOf lo
  by_cases h1 : bef b a <;> by_cases h2 : bef c b <;> by_cases h3 : bef c a <;> by_cases h4 : bef d a <;> by_cases h5 : bef d b <;> by_cases h6 : bef d c <;> simp [h1, h2, h3, h4, h5, h6]
theorem least_of4 (a b c d : Pl) : ∃ m : Pl, lo (lo (lo a b) c) d = m ∧ (m = a ∨ m = b ∨ m = c ∨ m = d) ∧ ¬ bef a m ∧ ¬ bef b m ∧ ¬ bef c m ∧ ¬ bef d m := by
  obtain ⟨e1, n1, n2⟩ := lo_is a b
  obtain ⟨e2, n3, n4⟩ := lo_is (lo a b) c
  obtain ⟨e3, n5, n6⟩ := lo_is (lo (lo a b) c) d
  refine ⟨_, rfl, ?_, nbef_trans (nbef_trans n1 n3) n5, nbef_trans (nbef_trans n2 n3) n5, nbef_trans n4 n5, n6⟩
  rcases e3 with e3 | e3
  · rw [e3]
    rcases e2 with e2 | e2
    · rw [e2]
      rcases e1 with e1 | e1
      · exact .inl e1
      · exact .inr (.inl e1)
    · exact .inr (.inr (.inl e2))
  · exact .inr (.inr (.inr e3))
theorem plain_pls (qs : List Pl) : (qs.map Pl.d).all (plain 9) = true := by
  rw [List.all_map, List.all_eq_true]
  intro q _
  rfl
theorem spo_self {a b p : Pl} (h : 0 < tw a b p) : ¬ Spo a b p p := fun z => (Spo_dep h z).2 rfl
end L3

namespace Pf
open PySem L2 L3

def top (i : Nat) : Stmt := PySem.Challenge.pw_nearland_k17_nearer.main.body.getD i (.Pass ⟨0, 0, 0, 0⟩)
abbrev s__law_nth : Stmt := top 12
abbrev s__law_spot : Stmt := top 15
abbrev s__law_spots : Stmt := top 16
abbrev s__law_shared : Stmt := top 17
abbrev s__law_lowest : Stmt := top 18
abbrev s__law_point : Stmt := top 20
abbrev s__law_far : Stmt := top 21
abbrev s__law_sign : Stmt := top 14
abbrev s_sign : Stmt := top 4
abbrev s_whole_square : Stmt := top 8
abbrev s_nearer : Stmt := top 10
abbrev s_common_divisor : Stmt := top 5
abbrev s_fraction : Stmt := top 6
abbrev s_square : Stmt := top 9
abbrev s__law_square : Stmt := top 22
abbrev s__law_int : Stmt := top 13
abbrev s__law_is_fraction : Stmt := top 19
abbrev s__law_told : Stmt := top 23
abbrev s_law : Stmt := top 24
structure Ad where
  f__law_nth : Addr
  fd__law_nth : FuncData
  f__law_spot : Addr
  fd__law_spot : FuncData
  f__law_spots : Addr
  fd__law_spots : FuncData
  f__law_shared : Addr
  fd__law_shared : FuncData
  f__law_lowest : Addr
  fd__law_lowest : FuncData
  f__law_point : Addr
  fd__law_point : FuncData
  f__law_far : Addr
  fd__law_far : FuncData
  f__law_sign : Addr
  fd__law_sign : FuncData
  f_sign : Addr
  fd_sign : FuncData
  f_whole_square : Addr
  fd_whole_square : FuncData
  f_nearer : Addr
  fd_nearer : FuncData
  f_common_divisor : Addr
  fd_common_divisor : FuncData
  f_fraction : Addr
  fd_fraction : FuncData
  f_square : Addr
  fd_square : FuncData
  f__law_square : Addr
  fd__law_square : FuncData
  f__law_int : Addr
  fd__law_int : FuncData
  f__law_is_fraction : Addr
  fd__law_is_fraction : FuncData
  f__law_told : Addr
  fd__law_told : FuncData
  f_law : Addr
  fd_law : FuncData
structure Txt (K : PySem.W.Frag) (mg : Str → Option Value) (t : Ad) : Prop where
  F__law_nth : Fun K "_law_nth" "_law_nth" s__law_nth t.f__law_nth t.fd__law_nth
  m__law_nth : mg "_law_nth" = some (.ref t.f__law_nth)
  F__law_spot : Fun K "_law_spot" "_law_spot" s__law_spot t.f__law_spot t.fd__law_spot
  m__law_spot : mg "_law_spot" = some (.ref t.f__law_spot)
  F__law_spots : Fun K "_law_spots" "_law_spots" s__law_spots t.f__law_spots t.fd__law_spots
  m__law_spots : mg "_law_spots" = some (.ref t.f__law_spots)
  F__law_shared : Fun K "_law_shared" "_law_shared" s__law_shared t.f__law_shared t.fd__law_shared
  m__law_shared : mg "_law_shared" = some (.ref t.f__law_shared)
  F__law_lowest : Fun K "_law_lowest" "_law_lowest" s__law_lowest t.f__law_lowest t.fd__law_lowest
  m__law_lowest : mg "_law_lowest" = some (.ref t.f__law_lowest)
  F__law_point : Fun K "_law_point" "_law_point" s__law_point t.f__law_point t.fd__law_point
  m__law_point : mg "_law_point" = some (.ref t.f__law_point)
  F__law_far : Fun K "_law_far" "_law_far" s__law_far t.f__law_far t.fd__law_far
  m__law_far : mg "_law_far" = some (.ref t.f__law_far)
  F__law_sign : Fun K "_law_sign" "_law_sign" s__law_sign t.f__law_sign t.fd__law_sign
  m__law_sign : mg "_law_sign" = some (.ref t.f__law_sign)
  F_sign : Fun K "sign" "sign" s_sign t.f_sign t.fd_sign
  m_sign : mg "sign" = some (.ref t.f_sign)
  F_whole_square : Fun K "whole_square" "whole_square" s_whole_square t.f_whole_square t.fd_whole_square
  m_whole_square : mg "whole_square" = some (.ref t.f_whole_square)
  F_nearer : Fun K "nearer" "nearer" s_nearer t.f_nearer t.fd_nearer
  m_nearer : mg "nearer" = some (.ref t.f_nearer)
  F_common_divisor : Fun K "common_divisor" "common_divisor" s_common_divisor t.f_common_divisor t.fd_common_divisor
  m_common_divisor : mg "common_divisor" = some (.ref t.f_common_divisor)
  F_fraction : Fun K "fraction" "fraction" s_fraction t.f_fraction t.fd_fraction
  m_fraction : mg "fraction" = some (.ref t.f_fraction)
  F_square : Fun K "square" "square" s_square t.f_square t.fd_square
  m_square : mg "square" = some (.ref t.f_square)
  F__law_square : Fun K "_law_square" "_law_square" s__law_square t.f__law_square t.fd__law_square
  m__law_square : mg "_law_square" = some (.ref t.f__law_square)
  F__law_int : Fun K "_law_int" "_law_int" s__law_int t.f__law_int t.fd__law_int
  m__law_int : mg "_law_int" = some (.ref t.f__law_int)
  F__law_is_fraction : Fun K "_law_is_fraction" "_law_is_fraction" s__law_is_fraction t.f__law_is_fraction t.fd__law_is_fraction
  m__law_is_fraction : mg "_law_is_fraction" = some (.ref t.f__law_is_fraction)
  F__law_told : Fun K "_law_told" "_law_told" s__law_told t.f__law_told t.fd__law_told
  m__law_told : mg "_law_told" = some (.ref t.f__law_told)
  F_law : Fun K "law" "law" s_law t.f_law t.fd_law
  m_law : mg "law" = some (.ref t.f_law)
  no_len : mg "len" = none
  no_int : mg "int" = none
  no_range : mg "range" = none
  no_abs : mg "abs" = none
  no_isinstance : mg "isinstance" = none
  no_tuple : mg "tuple" = none
theorem sc__law_nth : FnScope ["_law_script", "_law_k"] ["_law_script", "_law_k"] (defScope s__law_nth) := ⟨rfl, rfl, rfl, by decide +kernel, rfl, by decide +kernel, by decide +kernel⟩
theorem sc__law_spot : FnScope ["_law_kind", "_law_one", "_law_other", "_law_heart", "_law_by", "_law_x", "_law_y"] ["_law_kind", "_law_one", "_law_other", "_law_heart", "_law_by"] (defScope s__law_spot) := ⟨rfl, rfl, rfl, by decide +kernel, rfl, by decide +kernel, by decide +kernel⟩
theorem sc__law_spots : FnScope ["_law_script", "_law_start", "_law_many", "_law_kind", "_law_right", "_law_up", "_law_by", "_law_found", "_law_k", "_law_one", "_law_other", "_law_here"] ["_law_script", "_law_start", "_law_many"] (defScope s__law_spots) := ⟨rfl, rfl, rfl, by decide +kernel, rfl, by decide +kernel, by decide +kernel⟩
theorem sc__law_shared : FnScope ["_law_one", "_law_other", "_law_rest"] ["_law_one", "_law_other"] (defScope s__law_shared) := ⟨rfl, rfl, rfl, by decide +kernel, rfl, by decide +kernel, by decide +kernel⟩
theorem sc__law_lowest : FnScope ["_law_top", "_law_bottom", "_law_by"] ["_law_top", "_law_bottom"] (defScope s__law_lowest) := ⟨rfl, rfl, rfl, by decide +kernel, rfl, by decide +kernel, by decide +kernel⟩
theorem sc__law_point : FnScope ["_law_script", "_law_p", "_law_q", "_law_many", "_law_along", "_law_to", "_law_right", "_law_up", "_law_x", "_law_y"] ["_law_script", "_law_p", "_law_q"] (defScope s__law_point) := ⟨rfl, rfl, rfl, by decide +kernel, rfl, by decide +kernel, by decide +kernel⟩
theorem sc__law_far : FnScope ["_law_script", "_law_far_here", "_law_x", "_law_y", "_law_bottom", "_law_other"] ["_law_script"] (defScope s__law_far) := ⟨rfl, rfl, rfl, by decide +kernel, rfl, by decide +kernel, by decide +kernel⟩
theorem sc__law_sign : FnScope ["_law_number"] ["_law_number"] (defScope s__law_sign) := ⟨rfl, rfl, rfl, by decide +kernel, rfl, by decide +kernel, by decide +kernel⟩
theorem sc_sign : FnScope ["number"] ["number"] (defScope s_sign) := ⟨rfl, rfl, rfl, by decide +kernel, rfl, by decide +kernel, by decide +kernel⟩
theorem sc_whole_square : FnScope ["p", "X", "right", "up"] ["p", "X"] (defScope s_whole_square) := ⟨rfl, rfl, rfl, by decide +kernel, rfl, by decide +kernel, by decide +kernel⟩
theorem sc_nearer : FnScope ["X", "p", "q"] ["X", "p", "q"] (defScope s_nearer) := ⟨rfl, rfl, rfl, by decide +kernel, rfl, by decide +kernel, by decide +kernel⟩
theorem sc_common_divisor : FnScope ["one", "other", "great", "small", "rest"] ["one", "other"] (defScope s_common_divisor) := ⟨rfl, rfl, rfl, by decide +kernel, rfl, by decide +kernel, by decide +kernel⟩
theorem sc_fraction : FnScope ["top", "bottom", "divisor"] ["top", "bottom"] (defScope s_fraction) := ⟨rfl, rfl, rfl, by decide +kernel, rfl, by decide +kernel, by decide +kernel⟩
theorem sc_square : FnScope ["p", "X", "bottom"] ["p", "X"] (defScope s_square) := ⟨rfl, rfl, rfl, by decide +kernel, rfl, by decide +kernel, by decide +kernel⟩
theorem sc__law_square : FnScope ["_law_p", "_law_spot_here", "_law_right", "_law_up"] ["_law_p", "_law_spot_here"] (defScope s__law_square) := ⟨rfl, rfl, rfl, by decide +kernel, rfl, by decide +kernel, by decide +kernel⟩
theorem sc__law_int : FnScope ["_law_thing"] ["_law_thing"] (defScope s__law_int) := ⟨rfl, rfl, rfl, by decide +kernel, rfl, by decide +kernel, by decide +kernel⟩
theorem sc__law_is_fraction : FnScope ["_law_thing"] ["_law_thing"] (defScope s__law_is_fraction) := ⟨rfl, rfl, rfl, by decide +kernel, rfl, by decide +kernel, by decide +kernel⟩
theorem sc__law_told : FnScope ["_law_p", "_law_spot_here", "_law_found", "_law_due"] ["_law_p", "_law_spot_here"] (defScope s__law_told) := ⟨rfl, rfl, rfl, by decide +kernel, rfl, by decide +kernel, by decide +kernel⟩
theorem sc_law : FnScope ["_law_script", "_law_p", "_law_q", "_law_spot_here", "_law_due", "_law_one", "_law_other", "_law_hand", "_law_found"] ["_law_script"] (defScope s_law) := ⟨rfl, rfl, rfl, by decide +kernel, rfl, by decide +kernel, by decide +kernel⟩

section
variable {P : Program} {w : World} {K : PySem.W.Frag} {mg : Str → Option Value} {base : Heap} {t : Ad}
theorem bd__law_nth (T : Txt K mg t) : Binds K t.fd__law_nth ["_law_script", "_law_k"] [] := T.F__law_nth.binds fun _ _ _ _ _ _ us hl => match us, hl with | [_, _], _ => rfl
@[irreducible] def nth (ns : List Int) (k : Int) : Int := ns.getD k.toNat 0
def S__law_nth : SpP := fun ds Q => ∃ (ns : List Int) (k : Int), ds = [.frl (ns.map L3.D.int), .int k] ∧ 0 ≤ k ∧ Q (.int (nth ns k))
theorem ok__law_nth (T : Txt K mg t) : FnOk P w K mg base CX0 1 t.f__law_nth t.fd__law_nth ["_law_script", "_law_k"] (spP K S__law_nth) := by
  refine fnP T.F__law_nth sc__law_nth (fun ds Q h => by (first | (obtain ⟨_, rfl, _⟩ := h; rfl) | (obtain ⟨_, _, rfl, _⟩ := h; rfl) | (obtain ⟨_, _, _, rfl, _⟩ := h; rfl) | (obtain ⟨_, _, _, _, rfl, _⟩ := h; rfl) | (obtain ⟨_, _, _, _, _, rfl, _⟩ := h; rfl) | (obtain ⟨_, _, _, _, _, _, rfl, _⟩ := h; rfl) | (obtain ⟨_, _, _, _, _, _, _, rfl, _⟩ := h; rfl))) (fun cdv A outer s H hr => ?_)
  have hu := hr.units
  refine ⟨_, (b_one (s_ret (q_if (k_cmp (o_ltD hu) (q_var 1) (q_blt c_len (by rfl) T.no_len boot3_len (a_cons (q_var 0) a_nil)) (nomark _)) (q_ix (q_var 0) (q_var 1)) q_int))), fun ds Q h => ?_⟩
  obtain ⟨ns, k, rfl, hk, h⟩ := h
  walk_at "rd"
  refine ⟨_, _, rfl, .inr (.inl rfl), ?_⟩
  walk_at "rd"
  refine ite2 (fun c => ?_) (fun c => ?_)
  · have c : k < ((ns.map L3.D.int).length : Int) := of_decide_eq_true c
    rw [List.length_map] at c
    have hlt : k.toNat < ns.length := by omega
    walk_at "rd"
    refine ⟨_, k, .int (nth ns k), .inr (.inl rfl), rfl, ?_, h⟩
    have e : k = ((k.toNat : Nat) : Int) := by omega
    rw [e]
    refine atI_nat ?_
    unfold nth
    rw [List.getElem?_map, List.getD_eq_getElem?_getD, List.getElem?_eq_getElem (by omega), ← e, List.getElem?_eq_getElem hlt]
    simp
  · have c : ¬ k < ((ns.map L3.D.int).length : Int) := fun z => c (decide_eq_true z)
    rw [List.length_map] at c
    have e : nth ns k = 0 := by
      unfold nth
      rw [List.getD_eq_getElem?_getD, List.getElem?_eq_none (by omega)]
      rfl
    rw [e] at h
    exact h
theorem bd__law_spot (T : Txt K mg t) : Binds K t.fd__law_spot ["_law_kind", "_law_one", "_law_other", "_law_heart", "_law_by"] [] := T.F__law_spot.binds fun _ _ _ _ _ _ us hl => match us, hl with | [_, _, _, _, _], _ => rfl
def S__law_spot : SpP := fun ds Q => ∃ (kind one other : Int) (heart : Pl) (by' : Int), ds = [.int kind, .int one, .int other, heart.d, .int by'] ∧ heart.Ok 136 ∧ Sm 68 by' ∧ ∀ p : Pl, p.Ok 140 → Q p.d
theorem menu6 (z : Int) : ∃ q : Pl, atI [L3.D.tup [.int 5, .int 0], .tup [.int 4, .int 3], .tup [.int 3, .int 4], .tup [.int 0, .int 5], .tup [.int (-3), .int 4], .tup [.int (-4), .int 3]] (z % 6) = some q.d ∧ q.Ok 4 := by
  have h1 := Int.emod_nonneg z (show (6 : Int) ≠ 0 by decide)
  have h2 := Int.emod_lt_of_pos z (show (0 : Int) < 6 by decide)
  have : z % 6 = 0 ∨ z % 6 = 1 ∨ z % 6 = 2 ∨ z % 6 = 3 ∨ z % 6 = 4 ∨ z % 6 = 5 := by omega
  rcases this with e | e | e | e | e | e <;> rw [e]
  · exact ⟨⟨5, 0⟩, rfl, by decide, by decide⟩
  · exact ⟨⟨4, 3⟩, rfl, by decide, by decide⟩
  · exact ⟨⟨3, 4⟩, rfl, by decide, by decide⟩
  · exact ⟨⟨0, 5⟩, rfl, by decide, by decide⟩
  · exact ⟨⟨-3, 4⟩, rfl, by decide, by decide⟩
  · exact ⟨⟨-4, 3⟩, rfl, by decide, by decide⟩
theorem ok__law_spot (T : Txt K mg t) : FnOk P w K mg base CX0 1 t.f__law_spot t.fd__law_spot ["_law_kind", "_law_one", "_law_other", "_law_heart", "_law_by"] (spP K S__law_spot) := by
  refine fnP T.F__law_spot sc__law_spot (fun ds Q h => by (first | (obtain ⟨_, rfl, _⟩ := h; rfl) | (obtain ⟨_, _, rfl, _⟩ := h; rfl) | (obtain ⟨_, _, _, rfl, _⟩ := h; rfl) | (obtain ⟨_, _, _, _, rfl, _⟩ := h; rfl) | (obtain ⟨_, _, _, _, _, rfl, _⟩ := h; rfl) | (obtain ⟨_, _, _, _, _, _, rfl, _⟩ := h; rfl) | (obtain ⟨_, _, _, _, _, _, _, rfl, _⟩ := h; rfl))) (fun cdv A outer s H hr => ?_)
  have hu := hr.units
  refine ⟨_, (b_cons (s_set (i := 5) sc__law_spot.nd rfl (Or.inl rfl) (q_bin o_sub (q_bin o_mod (q_var 1) q_int) q_int))
      (b_cons (s_set (i := 6) sc__law_spot.nd rfl (Or.inl rfl) (q_bin o_mul q_int (q_var 5)))
      (b_cons (s_if (k_cmp (o_eq hu) (q_var 0) q_int (nomark _)) (b_one (s_ret (q_tup (a_cons (q_bin o_sub (q_bin o_mod (q_var 1) q_int) q_int) (a_cons (q_bin o_sub (q_bin o_mod (q_var 2) q_int) q_int) a_nil))))) b_nil)
      (b_cons (s_if (k_cmp (o_eq hu) (q_var 0) q_int (nomark _)) (b_cons (s_asg (q_ix (q_lst (a_cons (q_tup (a_cons q_int (a_cons q_int a_nil))) (a_cons (q_tup (a_cons q_int (a_cons q_int a_nil))) (a_cons (q_tup (a_cons q_int (a_cons q_int a_nil))) (a_cons (q_tup (a_cons q_int (a_cons q_int a_nil))) (a_cons (q_tup (a_cons (q_neg q_int) (a_cons q_int a_nil))) (a_cons (q_tup (a_cons (q_neg q_int) (a_cons q_int a_nil))) a_nil))))))) (q_bin o_mod (q_var 1) q_int)) (g_seq rfl (gs_cons (g_name (i := 5) sc__law_spot.nd rfl (Or.inl rfl)) (gs_cons (g_name (i := 6) sc__law_spot.nd rfl (Or.inl rfl)) gs_nil))))
      (b_one (s_if (k_cmp (o_eq hu) (q_bin o_mod (q_bin o_fdiv (q_var 1) q_int) q_int) q_int (nomark _)) (b_one (s_par (i := 5) (j := 6) rfl sc__law_spot.nd rfl rfl (by decide) rfl rfl (a_cons (q_neg (q_var 5)) (a_cons (q_neg (q_var 6)) a_nil)))) b_nil))) b_nil)
      (b_cons (s_if (k_cmp (o_eq hu) (q_var 0) q_int (nomark _)) (b_cons (s_set (i := 5) sc__law_spot.nd rfl (Or.inl rfl) (q_bin o_mod (q_var 1) q_int))
      (b_one (s_set (i := 6) sc__law_spot.nd rfl (Or.inl rfl) (q_bin o_mod (q_var 2) q_int)))) b_nil)
      (b_cons (s_if (k_cmp (o_eq hu) (q_var 0) q_int (nomark _)) (b_one (s_ret (q_tup (a_cons (q_bin o_add (q_bin o_sub (q_bin o_mod (q_var 1) (q_bin o_sub (q_bin o_mul q_int (q_bin o_pow q_int q_int)) q_int)) (q_bin o_pow q_int q_int)) q_int) (a_cons (q_bin o_add (q_bin o_sub (q_bin o_mod (q_var 2) (q_bin o_sub (q_bin o_mul q_int (q_bin o_pow q_int q_int)) q_int)) (q_bin o_pow q_int q_int)) q_int) a_nil))))) b_nil)
      (b_cons (s_if (k_cmp (o_eq hu) (q_var 0) q_int (nomark _)) (b_one (s_ret (q_tup (a_cons (q_bin o_add (q_ix (q_var 3) q_int) (q_bin o_mul (q_var 4) (q_var 5))) (a_cons (q_bin o_add (q_bin o_add (q_ix (q_var 3) q_int) (q_bin o_mul (q_var 4) (q_var 6))) (q_typ c_int (by rfl) T.no_int boot3_int (a_cons (q_cmp (o_eq hu) (q_bin o_mod (q_var 2) q_int) q_int (nomark _)) a_nil))) a_nil))))) b_nil)
      (b_cons (s_if (k_cmp (o_eq hu) (q_var 0) q_int (nomark _)) (b_cons (s_set (i := 5) sc__law_spot.nd rfl (Or.inl rfl) (q_bin o_sub (q_bin o_mod (q_var 1) q_int) q_int))
      (b_one (s_set (i := 6) sc__law_spot.nd rfl (Or.inl rfl) (q_bin o_sub (q_bin o_mod (q_var 2) q_int) q_int)))) b_nil)
      (b_one (s_ret (q_tup (a_cons (q_bin o_add (q_ix (q_var 3) q_int) (q_bin o_mul (q_var 4) (q_var 5))) (a_cons (q_bin o_add (q_ix (q_var 3) q_int) (q_bin o_mul (q_var 4) (q_var 6))) a_nil))))))))))))), fun ds Q h => ?_⟩
  obtain ⟨kind, one, other, heart, by', rfl, ⟨h1, h2⟩, hb, h⟩ := h
  have hq : ∀ x y, Sm 140 x → Sm 140 y → Q (.tup [.int x, .int y]) := fun x y a b => h ⟨x, y⟩ ⟨a, b⟩
  walk_at "rd"
  refine ite2 (fun c => ?_) (fun c => ?_)
  · walk_at "rd"
    exact hq _ _ (by walk_at "smle") (by walk_at "smle")
  walk_at "rd"
  refine ite2 (fun c => ?_) (fun c => ?_)
  · rw [eqD_int] at c
    have c := eq_of_beq c
    subst c
    walk_at "rd"
    intro l hl
    obtain ⟨q, e1, q1, q2⟩ := menu6 one
    refine ⟨_, rfl, _, _, rfl, rfl, by show (0 : Int) < 6; decide, ?_⟩
    refine ⟨_, _, q.d, .inr (.inr ⟨l, rfl, updM_same⟩), rfl, e1, ?_⟩
    refine ⟨_, .inl rfl, rfl, ?_⟩
    walk_at "rd"
    refine ite2 (fun c => ?_) (fun c => ?_)
    · walk_at "rd"
      exact hq _ _ (by walk_at "smle") (by walk_at "smle")
    · walk_at "rd"
      exact hq _ _ (by walk_at "smle") (by walk_at "smle")
  walk_at "rd"
  refine ite2 (fun c => ?_) (fun c => ?_)
  · rw [eqD_int] at c
    have c := eq_of_beq c
    subst c
    walk_at "rd"
    exact hq _ _ (by walk_at "smle") (by walk_at "smle")
  walk_at "rd"
  refine ite2 (fun c => ?_) (fun c => ?_)
  · walk_at "rd"
    exact hq _ _ (by walk_at "smle") (by walk_at "smle")
  walk_at "rd"
  refine ite2 (fun c => ?_) (fun c => ?_)
  · walk_at "rd"
    refine hq _ _ (by walk_at "smle") ?_
    have e : Sm 1 (if eqD (L3.D.int (other % 4)) (L3.D.int 1) = true then 1 else 0) := by split <;> decide
    walk_at "smle"
  walk_at "rd"
  refine ite2 (fun c => ?_) (fun c => ?_)
  · walk_at "rd"
    exact hq _ _ (by walk_at "smle") (by walk_at "smle")
  · walk_at "rd"
    exact hq _ _ (by walk_at "smle") (by walk_at "smle")
theorem bd__law_spots (T : Txt K mg t) : Binds K t.fd__law_spots ["_law_script", "_law_start", "_law_many"] [] := T.F__law_spots.binds fun _ _ _ _ _ _ us hl => match us, hl with | [_, _, _], _ => rfl
def S__law_spots : Sp3 := fun ds M Q => ∃ (ns : List Int) (start many : Int), ds = [.frl (ns.map L3.D.int), .int start, .int many] ∧ 0 ≤ start ∧ 0 ≤ many ∧ many ≤ 1000 ∧ ∀ (p : Addr) (ps : List Pl), M p = none → ps.length = many.toNat → (∀ q ∈ ps, q.Ok 140) → Q (.ref p) (updM M p (.lst (ps.map Pl.d)))
theorem ok__law_spots (T : Txt K mg t) : FnOk P w K mg base CX0 2 t.f__law_spots t.fd__law_spots ["_law_script", "_law_start", "_law_many"] (sp3 K S__law_spots) := by
  refine fn3 T.F__law_spots sc__law_spots (fun ds M Q h => by (first | (obtain ⟨_, rfl, _⟩ := h; rfl) | (obtain ⟨_, _, rfl, _⟩ := h; rfl) | (obtain ⟨_, _, _, rfl, _⟩ := h; rfl) | (obtain ⟨_, _, _, _, rfl, _⟩ := h; rfl) | (obtain ⟨_, _, _, _, _, rfl, _⟩ := h; rfl) | (obtain ⟨_, _, _, _, _, _, rfl, _⟩ := h; rfl) | (obtain ⟨_, _, _, _, _, _, _, rfl, _⟩ := h; rfl))) (fun cdv A outer s H hr => ?_)
  have hu := hr.units
  refine ⟨_, (b_cons (s_set (i := 3) sc__law_spots.nd rfl (Or.inl rfl) (q_bin o_mod (q_callP (ok__law_nth T) (hr.mono (by decide)) (by rfl) T.m__law_nth T.F__law_nth.kp (bd__law_nth T) (a_cons (q_var 0) (a_cons (q_var 1) a_nil))) q_int))
      (b_cons (s_set (i := 4) sc__law_spots.nd rfl (Or.inl rfl) (q_bin o_sub (q_bin o_mod (q_callP (ok__law_nth T) (hr.mono (by decide)) (by rfl) T.m__law_nth T.F__law_nth.kp (bd__law_nth T) (a_cons (q_var 0) (a_cons (q_bin o_add (q_var 1) q_int) a_nil))) (q_bin o_add (q_bin o_mul q_int (q_bin o_pow q_int q_int)) q_int)) (q_bin o_pow q_int q_int)))
      (b_cons (s_set (i := 5) sc__law_spots.nd rfl (Or.inl rfl) (q_bin o_sub (q_bin o_mod (q_callP (ok__law_nth T) (hr.mono (by decide)) (by rfl) T.m__law_nth T.F__law_nth.kp (bd__law_nth T) (a_cons (q_var 0) (a_cons (q_bin o_add (q_var 1) q_int) a_nil))) (q_bin o_add (q_bin o_mul q_int (q_bin o_pow q_int q_int)) q_int)) (q_bin o_pow q_int q_int)))
      (b_cons (s_set (i := 6) sc__law_spots.nd rfl (Or.inl rfl) (q_bin o_add q_int (q_bin o_mod (q_callP (ok__law_nth T) (hr.mono (by decide)) (by rfl) T.m__law_nth T.F__law_nth.kp (bd__law_nth T) (a_cons (q_var 0) (a_cons (q_bin o_add (q_var 1) q_int) a_nil))) (q_bin o_pow q_int q_int))))
      (b_cons (s_set (i := 7) sc__law_spots.nd rfl (Or.inl rfl) (q_lst a_nil))
      (b_cons (s_forR PassesOwn.never rfl (by rfl) T.no_range (a_cons (q_var 2) a_nil) (g_name (i := 8) sc__law_spots.nd rfl (Or.inl rfl)) (b_cons (s_set (i := 9) sc__law_spots.nd rfl (Or.inl rfl) (q_callP (ok__law_nth T) (hr.mono (by decide)) (by rfl) T.m__law_nth T.F__law_nth.kp (bd__law_nth T) (a_cons (q_var 0) (a_cons (q_bin o_add (q_bin o_add (q_var 1) q_int) (q_bin o_mul q_int (q_var 8))) a_nil))))
      (b_cons (s_set (i := 10) sc__law_spots.nd rfl (Or.inl rfl) (q_callP (ok__law_nth T) (hr.mono (by decide)) (by rfl) T.m__law_nth T.F__law_nth.kp (bd__law_nth T) (a_cons (q_var 0) (a_cons (q_bin o_add (q_bin o_add (q_var 1) q_int) (q_bin o_mul q_int (q_var 8))) a_nil))))
      (b_cons (s_set (i := 11) sc__law_spots.nd rfl (Or.inl rfl) (q_var 3))
      (b_cons (s_if (PW3.pt (k_and (k_cmp (o_eq hu) (q_var 3) q_int (nomark _)) (k_and1 (k_cmp (o_ltD hu) (q_var 8) q_int (nomark _))))) (b_one (s_set (i := 11) sc__law_spots.nd rfl (Or.inl rfl) q_int)) b_nil)
      (b_one (s_expr (q_app (q_var 7) (q_callP (ok__law_spot T) (hr.mono (by decide)) (by rfl) T.m__law_spot T.F__law_spot.kp (bd__law_spot T) (a_cons (q_var 11) (a_cons (q_var 9) (a_cons (q_var 10) (a_cons (q_tup (a_cons (q_var 4) (a_cons (q_var 5) a_nil))) (a_cons (q_var 6) a_nil)))))) (pe_bm PySem.F.plainAttrs_list PySem.F.slot_list_append PySem.F.type_list_append mt_append (PE3.dn (q_var 7)) (pa_cons (PE3.dn (q_callP (ok__law_spot T) (hr.mono (by decide)) (by rfl) T.m__law_spot T.F__law_spot.kp (bd__law_spot T) (a_cons (q_var 11) (a_cons (q_var 9) (a_cons (q_var 10) (a_cons (q_tup (a_cons (q_var 4) (a_cons (q_var 5) a_nil))) (a_cons (q_var 6) a_nil))))))) pa_nil))))))))))
      (b_one (s_ret (q_var 7))))))))), fun ds M Q h => ?_⟩
  obtain ⟨ns, start, many, rfl, hs, hm, hm2, h⟩ := h
  walk_at "rd"
  intro p hp
  refine ⟨_, rfl, many, rfl, by omega, by omega, ?_⟩
  refine runFor_inv (fun i ρ M' => ∃ (ps : List Pl) (x1 x2 x3 x4 : Option L3.D) (kind right up by' : Int), ρ = [some (.frl (ns.map L3.D.int)), some (.int start), some (.int many), some (.int kind), some (.int right), some (.int up), some (.int by'), some (.ref p), x1, x2, x3, x4] ∧ Sm 136 right ∧ Sm 136 up ∧ Sm 68 by' ∧ ps.length = i ∧ (∀ q ∈ ps, q.Ok 140) ∧ M' = updM M p (.lst (ps.map Pl.d))) _ ?_ ?_ ?_
  · rintro i x ρ M' N hx ⟨ps, x1, x2, x3, x4, kind, right, up, by', rfl, s1, s2, s3, hl, ho, rfl⟩ hN
    obtain ⟨hi, rfl⟩ := range_get hx
    have si : Sm 10 ((i : Nat) : Int) := by
      show i < 2 ^ 10
      omega
    refine ⟨trivial, ?_⟩
    walk_at "rd"
    have fin : ∀ (k o1 o2 : Int) (y1 y2 y3 y4 : Option L3.D), S__law_spot [.int k, .int o1, .int o2, .tup [.int right, .int up], .int by'] fun d => ∃ l xs, (L3.D.ref p) = .ref l ∧ (updM M p (.lst (ps.map Pl.d))) l = some (.lst xs) ∧ xs.length < sizeLine ∧ N [some (.frl (ns.map L3.D.int)), some (.int start), some (.int many), some (.int kind), some (.int right), some (.int up), some (.int by'), some (.ref p), y1, y2, y3, y4] (updM (updM M p (.lst (ps.map Pl.d))) l (.lst (xs ++ [d]))) := by
      intro k o1 o2 y1 y2 y3 y4
      refine ⟨k, o1, o2, ⟨right, up⟩, by', rfl, ⟨s1, s2⟩, s3, fun q hq => ⟨p, _, rfl, updM_same, ?_, ?_⟩⟩
      · rw [List.length_map]
        have : (1000 : Nat) < sizeLine := by decide
        omega
      · rw [updM_upd]
        refine hN _ _ ⟨ps ++ [q], y1, y2, y3, y4, kind, right, up, by', rfl, s1, s2, s3, by simp [hl], ?_, by simp⟩
        intro z hz
        rcases List.mem_append.mp hz with hz | hz
        · exact ho z hz
        · rw [List.mem_singleton.mp hz]; exact hq
    refine ite2 (fun c => ?_) (fun c => ?_)
    · walk_at "rd"
      refine ite2 (fun c => ?_) (fun c => ?_)
      · walk_at "rd"
        refine ⟨⟨p, _, rfl, updM_same⟩, ?_⟩
        walk_at "rd"
        exact fin _ _ _ _ _ _ _
      · walk_at "rd"
        refine ⟨⟨p, _, rfl, updM_same⟩, ?_⟩
        walk_at "rd"
        exact fin _ _ _ _ _ _ _
    · walk_at "rd"
      refine ⟨⟨p, _, rfl, updM_same⟩, ?_⟩
      walk_at "rd"
      exact fin _ _ _ _ _ _ _
  · rintro ρ M' ⟨ps, x1, x2, x3, x4, kind, right, up, by', rfl, s1, s2, s3, hl, ho, rfl⟩
    refine ⟨trivial, ?_⟩
    walk_at "rd"
    refine Hold.mk ⟨_, Le.refl _, h p ps hp (by simpa using hl) ho⟩
  · exact ⟨[], none, none, none, none, _, _, _, _, rfl, by walk_at "smle", by walk_at "smle", by walk_at "smle", rfl, (fun q hq => by cases hq), rfl⟩
theorem bd__law_shared (T : Txt K mg t) : Binds K t.fd__law_shared ["_law_one", "_law_other"] [] := T.F__law_shared.binds fun _ _ _ _ _ _ us hl => match us, hl with | [_, _], _ => rfl
def S__law_shared : SpP := fun ds Q => ∃ i j : Int, ds = [.int i, .int j] ∧ Q (.int (Int.gcd i j : Nat))
theorem ok__law_shared (T : Txt K mg t) : FnOk P w K mg base CX0 1 t.f__law_shared t.fd__law_shared ["_law_one", "_law_other"] (spP K S__law_shared) := by
  refine fnP T.F__law_shared sc__law_shared (fun ds Q h => by (first | (obtain ⟨_, rfl, _⟩ := h; rfl) | (obtain ⟨_, _, rfl, _⟩ := h; rfl) | (obtain ⟨_, _, _, rfl, _⟩ := h; rfl) | (obtain ⟨_, _, _, _, rfl, _⟩ := h; rfl) | (obtain ⟨_, _, _, _, _, rfl, _⟩ := h; rfl) | (obtain ⟨_, _, _, _, _, _, rfl, _⟩ := h; rfl) | (obtain ⟨_, _, _, _, _, _, _, rfl, _⟩ := h; rfl))) (fun cdv A outer s H hr => ?_)
  have hu := hr.units
  refine ⟨_, (b_cons (s_set (i := 0) sc__law_shared.nd rfl (Or.inl rfl) (q_blt c_abs (by rfl) T.no_abs boot3_abs (a_cons (q_var 0) a_nil)))
      (b_cons (s_set (i := 1) sc__law_shared.nd rfl (Or.inl rfl) (q_blt c_abs (by rfl) T.no_abs boot3_abs (a_cons (q_var 1) a_nil)))
      (b_cons (s_while PassesOwn.never (k_cmp o_gt (q_var 0) q_int (nomark _)) (b_cons (s_set (i := 2) sc__law_shared.nd rfl (Or.inl rfl) (q_bin o_mod (q_var 1) (q_var 0)))
      (b_cons (s_set (i := 1) sc__law_shared.nd rfl (Or.inl rfl) (q_var 0))
      (b_one (s_set (i := 0) sc__law_shared.nd rfl (Or.inl rfl) (q_var 2))))))
      (b_one (s_ret (q_var 1)))))), fun ds Q h => ?_⟩
  obtain ⟨i, j, rfl, h⟩ := h
  walk_at "rd"
  refine ⟨fun m ρ M => ∃ (a : Nat) (r : Option L3.D), ρ = [some (.int (m : Int)), some (.int (a : Int)), r] ∧ Nat.gcd m a = Int.gcd i j, ⟨i.natAbs, j.natAbs, none, rfl, rfl⟩, ?_⟩
  rintro b ρ M ⟨a, r, rfl, hg⟩
  walk_at "rd"
  refine ite2 (fun c => ?_) (fun c => ?_)
  · have hb : (0 : Int) < b := of_decide_eq_true c
    walk_at "rd"
    have e : (a : Int) % (b : Int) = ((a % b : Nat) : Int) := by omega
    refine Hold.mk ⟨a % b, Nat.mod_lt _ (by omega), b, some (.int ((a % b : Nat) : Int)), by rw [← e]; rfl, ?_⟩
    rw [← hg]
    exact (Nat.gcd_rec b a).symm
  · have hb : ¬ (0 : Int) < b := fun z => c (decide_eq_true z)
    have hb : b = 0 := by omega
    subst hb
    walk_at "rd"
    rw [Nat.gcd_zero_left] at hg
    rw [hg]
    exact h
theorem bd__law_lowest (T : Txt K mg t) : Binds K t.fd__law_lowest ["_law_top", "_law_bottom"] [] := T.F__law_lowest.binds fun _ _ _ _ _ _ us hl => match us, hl with | [_, _], _ => rfl
def S__law_lowest : SpP := fun ds Q => ∃ (a b : Int) (n : Nat), ds = [.int a, .int b] ∧ 0 < b ∧ Sm n a ∧ Sm n b ∧ n ≤ 7000 ∧ Q (low a b).d
theorem ok__law_lowest (T : Txt K mg t) : FnOk P w K mg base CX0 2 t.f__law_lowest t.fd__law_lowest ["_law_top", "_law_bottom"] (spP K S__law_lowest) := by
  refine fnP T.F__law_lowest sc__law_lowest (fun ds Q h => by (first | (obtain ⟨_, rfl, _⟩ := h; rfl) | (obtain ⟨_, _, rfl, _⟩ := h; rfl) | (obtain ⟨_, _, _, rfl, _⟩ := h; rfl) | (obtain ⟨_, _, _, _, rfl, _⟩ := h; rfl) | (obtain ⟨_, _, _, _, _, rfl, _⟩ := h; rfl) | (obtain ⟨_, _, _, _, _, _, rfl, _⟩ := h; rfl) | (obtain ⟨_, _, _, _, _, _, _, rfl, _⟩ := h; rfl))) (fun cdv A outer s H hr => ?_)
  have hu := hr.units
  refine ⟨_, (b_cons (s_set (i := 2) sc__law_lowest.nd rfl (Or.inl rfl) (q_callP (ok__law_shared T) (hr.mono (by decide)) (by rfl) T.m__law_shared T.F__law_shared.kp (bd__law_shared T) (a_cons (q_var 0) (a_cons (q_var 1) a_nil))))
      (b_one (s_ret (q_tup (a_cons (q_bin o_fdiv (q_var 0) (q_var 2)) (a_cons (q_bin o_fdiv (q_var 1) (q_var 2)) a_nil)))))), fun ds Q h => ?_⟩
  obtain ⟨a, b, n, rfl, hb, sa, sb, hn, h⟩ := h
  walk_at "rd"
  have hg : (Int.gcd a b : Nat) ≤ b.natAbs := Nat.le_of_dvd (by omega) (Int.gcd_dvd_natAbs_right a b)
  have sg : Sm n ((Int.gcd a b : Nat) : Int) := sb.of_abs (by omega)
  have hg0 : 0 < Int.gcd a b := Int.gcd_pos_of_ne_zero_right a (by omega)
  have sd : DivOk 0 ((Int.gcd a b : Nat) : Int) := ⟨by omega, n, sg, by omega⟩
  refine ⟨sd, ?_⟩
  walk_at "rd"
  refine ⟨sd, ?_⟩
  walk_at "rd"
  exact h
theorem bd__law_point (T : Txt K mg t) : Binds K t.fd__law_point ["_law_script", "_law_p", "_law_q"] [] := T.F__law_point.binds fun _ _ _ _ _ _ us hl => match us, hl with | [_, _, _], _ => rfl
def S__law_point : SpP := fun ds Q => ∃ (ns : List Int) (p q : Pl), ds = [.frl (ns.map L3.D.int), p.d, q.d] ∧ p.Ok 140 ∧ q.Ok 140 ∧ ∀ m al : Int, 0 < m → (low (ptX p q m al (nth ns 11 % 5 - 2)) (2 * m)).Ok 1100 → (low (ptY p q m al (nth ns 11 % 5 - 2)) (2 * m)).Ok 1100 → Q (.tup [(low (ptX p q m al (nth ns 11 % 5 - 2)) (2 * m)).d, (low (ptY p q m al (nth ns 11 % 5 - 2)) (2 * m)).d])
theorem ok__law_point (T : Txt K mg t) : FnOk P w K mg base CX0 3 t.f__law_point t.fd__law_point ["_law_script", "_law_p", "_law_q"] (spP K S__law_point) := by
  refine fnP T.F__law_point sc__law_point (fun ds Q h => by (first | (obtain ⟨_, rfl, _⟩ := h; rfl) | (obtain ⟨_, _, rfl, _⟩ := h; rfl) | (obtain ⟨_, _, _, rfl, _⟩ := h; rfl) | (obtain ⟨_, _, _, _, rfl, _⟩ := h; rfl) | (obtain ⟨_, _, _, _, _, rfl, _⟩ := h; rfl) | (obtain ⟨_, _, _, _, _, _, rfl, _⟩ := h; rfl) | (obtain ⟨_, _, _, _, _, _, _, rfl, _⟩ := h; rfl))) (fun cdv A outer s H hr => ?_)
  have hu := hr.units
  refine ⟨_, (b_cons (s_set (i := 3) sc__law_point.nd rfl (Or.inl rfl) (q_bin o_add q_int (q_bin o_mod (q_callP (ok__law_nth T) (hr.mono (by decide)) (by rfl) T.m__law_nth T.F__law_nth.kp (bd__law_nth T) (a_cons (q_var 0) (a_cons q_int a_nil))) (q_bin o_pow q_int q_int))))
      (b_cons (s_set (i := 4) sc__law_point.nd rfl (Or.inl rfl) (q_bin o_sub (q_bin o_mod (q_callP (ok__law_nth T) (hr.mono (by decide)) (by rfl) T.m__law_nth T.F__law_nth.kp (bd__law_nth T) (a_cons (q_var 0) (a_cons q_int a_nil))) (q_bin o_add (q_bin o_mul q_int (q_bin o_pow q_int q_int)) q_int)) (q_bin o_pow q_int q_int)))
      (b_cons (s_set (i := 5) sc__law_point.nd rfl (Or.inl rfl) (q_bin o_sub (q_bin o_mod (q_callP (ok__law_nth T) (hr.mono (by decide)) (by rfl) T.m__law_nth T.F__law_nth.kp (bd__law_nth T) (a_cons (q_var 0) (a_cons q_int a_nil))) q_int) q_int))
      (b_cons (s_set (i := 6) sc__law_point.nd rfl (Or.inl rfl) (q_bin o_sub (q_ix (q_var 2) q_int) (q_ix (q_var 1) q_int)))
      (b_cons (s_set (i := 7) sc__law_point.nd rfl (Or.inl rfl) (q_bin o_sub (q_ix (q_var 2) q_int) (q_ix (q_var 1) q_int)))
      (b_cons (s_set (i := 8) sc__law_point.nd rfl (Or.inl rfl) (q_bin o_add (q_bin o_sub (q_bin o_mul (q_bin o_add (q_ix (q_var 1) q_int) (q_ix (q_var 2) q_int)) (q_var 3)) (q_bin o_mul (q_bin o_mul q_int (q_var 4)) (q_var 7))) (q_bin o_mul (q_bin o_mul q_int (q_var 5)) (q_var 6))))
      (b_cons (s_set (i := 9) sc__law_point.nd rfl (Or.inl rfl) (q_bin o_add (q_bin o_add (q_bin o_mul (q_bin o_add (q_ix (q_var 1) q_int) (q_ix (q_var 2) q_int)) (q_var 3)) (q_bin o_mul (q_bin o_mul q_int (q_var 4)) (q_var 6))) (q_bin o_mul (q_bin o_mul q_int (q_var 5)) (q_var 7))))
      (b_one (s_ret (q_tup (a_cons (q_callP (ok__law_lowest T) (hr.mono (by decide)) (by rfl) T.m__law_lowest T.F__law_lowest.kp (bd__law_lowest T) (a_cons (q_var 8) (a_cons (q_bin o_mul q_int (q_var 3)) a_nil))) (a_cons (q_callP (ok__law_lowest T) (hr.mono (by decide)) (by rfl) T.m__law_lowest T.F__law_lowest.kp (bd__law_lowest T) (a_cons (q_var 9) (a_cons (q_bin o_mul q_int (q_var 3)) a_nil))) a_nil)))))))))))), fun ds Q h => ?_⟩
  obtain ⟨ns, p, q, rfl, ⟨p1, p2⟩, ⟨q1, q2⟩, h⟩ := h
  have hm : 0 < 1 + nth ns 9 % 10 ^ (10 : Int).toNat := pos1 _ _ (by decide +kernel)
  have h2 : 0 < 2 * (1 + nth ns 9 % 10 ^ (10 : Int).toNat) := by omega
  walk_at "rd"
  refine ⟨_, _, 1100, rfl, h2, by walk_at "smle", by walk_at "smle", by decide, ?_⟩
  walk_at "rd"
  refine ⟨_, _, 1100, rfl, h2, by walk_at "smle", by walk_at "smle", by decide, ?_⟩
  walk_at "rd"
  have h := h (1 + nth ns 9 % 10 ^ (10 : Int).toNat) (nth ns 10 % (2 * 10 ^ (10 : Int).toNat + 1) - 10 ^ (10 : Int).toNat) hm (low_ok h2 (by unfold ptX; walk_at "smle") (by walk_at "smle")) (low_ok h2 (by unfold ptY; walk_at "smle") (by walk_at "smle"))
  unfold ptX ptY at h
  exact h
theorem bd__law_far (T : Txt K mg t) : Binds K t.fd__law_far ["_law_script"] [] := T.F__law_far.binds fun _ _ _ _ _ _ us hl => match us, hl with | [_], _ => rfl
def S__law_far : SpP := fun ds Q => ∃ (ns : List Int), ds = [.frl (ns.map L3.D.int)] ∧ ∀ f g : Pl, f.Ok 1100 → g.Ok 1100 → 0 < f.y → 0 < g.y → Q (.tup [f.d, g.d])
theorem ok__law_far (T : Txt K mg t) : FnOk P w K mg base CX0 3 t.f__law_far t.fd__law_far ["_law_script"] (spP K S__law_far) := by
  refine fnP T.F__law_far sc__law_far (fun ds Q h => by (first | (obtain ⟨_, rfl, _⟩ := h; rfl) | (obtain ⟨_, _, rfl, _⟩ := h; rfl) | (obtain ⟨_, _, _, rfl, _⟩ := h; rfl) | (obtain ⟨_, _, _, _, rfl, _⟩ := h; rfl) | (obtain ⟨_, _, _, _, _, rfl, _⟩ := h; rfl) | (obtain ⟨_, _, _, _, _, _, rfl, _⟩ := h; rfl) | (obtain ⟨_, _, _, _, _, _, _, rfl, _⟩ := h; rfl))) (fun cdv A outer s H hr => ?_)
  have hu := hr.units
  refine ⟨_, (b_cons (s_set (i := 1) sc__law_far.nd rfl (Or.inl rfl) (q_bin o_pow q_int q_int))
      (b_cons (s_if (k_cmp (o_eq hu) (q_bin o_mod (q_bin o_fdiv (q_callP (ok__law_nth T) (hr.mono (by decide)) (by rfl) T.m__law_nth T.F__law_nth.kp (bd__law_nth T) (a_cons (q_var 0) (a_cons q_int a_nil))) q_int) q_int) q_int (nomark _)) (b_one (s_set (i := 1) sc__law_far.nd rfl (Or.inl rfl) (q_bin o_mul (q_bin o_pow (q_bin o_pow q_int q_int) q_int) (q_bin o_pow q_int q_int)))) b_nil)
      (b_cons (s_set (i := 2) sc__law_far.nd rfl (Or.inl rfl) (q_bin o_add (q_bin o_sub (q_bin o_mod (q_callP (ok__law_nth T) (hr.mono (by decide)) (by rfl) T.m__law_nth T.F__law_nth.kp (bd__law_nth T) (a_cons (q_var 0) (a_cons q_int a_nil))) (q_bin o_sub (q_bin o_mul q_int (q_var 1)) q_int)) (q_var 1)) q_int))
      (b_cons (s_set (i := 3) sc__law_far.nd rfl (Or.inl rfl) (q_bin o_add (q_bin o_sub (q_bin o_mod (q_callP (ok__law_nth T) (hr.mono (by decide)) (by rfl) T.m__law_nth T.F__law_nth.kp (bd__law_nth T) (a_cons (q_var 0) (a_cons q_int a_nil))) (q_bin o_sub (q_bin o_mul q_int (q_var 1)) q_int)) (q_var 1)) q_int))
      (b_cons (s_set (i := 4) sc__law_far.nd rfl (Or.inl rfl) (q_bin o_add q_int (q_bin o_mod (q_callP (ok__law_nth T) (hr.mono (by decide)) (by rfl) T.m__law_nth T.F__law_nth.kp (bd__law_nth T) (a_cons (q_var 0) (a_cons q_int a_nil))) (q_bin o_sub (q_var 1) q_int))))
      (b_cons (s_set (i := 5) sc__law_far.nd rfl (Or.inl rfl) (q_bin o_add q_int (q_bin o_mod (q_callP (ok__law_nth T) (hr.mono (by decide)) (by rfl) T.m__law_nth T.F__law_nth.kp (bd__law_nth T) (a_cons (q_var 0) (a_cons q_int a_nil))) (q_bin o_sub (q_var 1) q_int))))
      (b_one (s_ret (q_tup (a_cons (q_callP (ok__law_lowest T) (hr.mono (by decide)) (by rfl) T.m__law_lowest T.F__law_lowest.kp (bd__law_lowest T) (a_cons (q_var 2) (a_cons (q_var 4) a_nil))) (a_cons (q_callP (ok__law_lowest T) (hr.mono (by decide)) (by rfl) T.m__law_lowest T.F__law_lowest.kp (bd__law_lowest T) (a_cons (q_var 3) (a_cons (q_var 5) a_nil))) a_nil))))))))))), fun ds Q h => ?_⟩
  obtain ⟨ns, rfl, h⟩ := h
  walk_at "rd"
  refine ite2 (fun c => ?_) (fun c => ?_)
  · walk_at "rd"
    refine ⟨_, _, 1100, rfl, pos1 _ _ (by decide +kernel), by walk_at "smle", by walk_at "smle", by decide, ?_⟩
    walk_at "rd"
    refine ⟨_, _, 1100, rfl, pos1 _ _ (by decide +kernel), by walk_at "smle", by walk_at "smle", by decide, ?_⟩
    walk_at "rd"
    refine h _ _ (low_ok (pos1 _ _ (by decide +kernel)) (by walk_at "smle") (by walk_at "smle")) (low_ok (pos1 _ _ (by decide +kernel)) (by walk_at "smle") (by walk_at "smle")) (low_spec (pos1 _ _ (by decide +kernel))).1 (low_spec (pos1 _ _ (by decide +kernel))).1
  · walk_at "rd"
    refine ⟨_, _, 1100, rfl, pos1 _ _ (by decide +kernel), by walk_at "smle", by walk_at "smle", by decide, ?_⟩
    walk_at "rd"
    refine ⟨_, _, 1100, rfl, pos1 _ _ (by decide +kernel), by walk_at "smle", by walk_at "smle", by decide, ?_⟩
    walk_at "rd"
    refine h _ _ (low_ok (pos1 _ _ (by decide +kernel)) (by walk_at "smle") (by walk_at "smle")) (low_ok (pos1 _ _ (by decide +kernel)) (by walk_at "smle") (by walk_at "smle")) (low_spec (pos1 _ _ (by decide +kernel))).1 (low_spec (pos1 _ _ (by decide +kernel))).1
theorem bd__law_sign (T : Txt K mg t) : Binds K t.fd__law_sign ["_law_number"] [] := T.F__law_sign.binds fun _ _ _ _ _ _ us hl => match us, hl with | [_], _ => rfl
def S__law_sign : SpP := fun ds Q => ∃ i : Int, ds = [.int i] ∧ Q (.int i.sign)
theorem ok__law_sign (T : Txt K mg t) : FnOk P w K mg base CX0 1 t.f__law_sign t.fd__law_sign ["_law_number"] (spP K S__law_sign) := by
  refine fnP T.F__law_sign sc__law_sign (fun ds Q h => by (first | (obtain ⟨_, rfl, _⟩ := h; rfl) | (obtain ⟨_, _, rfl, _⟩ := h; rfl) | (obtain ⟨_, _, _, rfl, _⟩ := h; rfl) | (obtain ⟨_, _, _, _, rfl, _⟩ := h; rfl) | (obtain ⟨_, _, _, _, _, rfl, _⟩ := h; rfl) | (obtain ⟨_, _, _, _, _, _, rfl, _⟩ := h; rfl) | (obtain ⟨_, _, _, _, _, _, _, rfl, _⟩ := h; rfl))) (fun cdv A outer s H hr => ?_)
  have hu := hr.units
  refine ⟨_, (b_one (s_ret (q_bin o_sub (q_typ c_int (by rfl) T.no_int boot3_int (a_cons (q_cmp o_gt (q_var 0) q_int (nomark _)) a_nil)) (q_typ c_int (by rfl) T.no_int boot3_int (a_cons (q_cmp (o_ltD hu) (q_var 0) q_int (nomark _)) a_nil))))), fun ds Q h => ?_⟩
  obtain ⟨i, rfl, h⟩ := h
  walk_at "rd"
  show Q (.int ((if decide (0 < i) = true then 1 else 0) - (if decide (i < 0) = true then 1 else 0)))
  rcases Int.lt_trichotomy i 0 with c | c | c
  · rw [Int.sign_eq_neg_one_of_neg c] at h
    have e1 : decide (0 < i) = false := decide_eq_false (by omega)
    have e2 : decide (i < 0) = true := decide_eq_true c
    rw [e1, e2]
    exact h
  · subst c
    exact h
  · rw [Int.sign_eq_one_of_pos c] at h
    have e1 : decide (0 < i) = true := decide_eq_true c
    have e2 : decide (i < 0) = false := decide_eq_false (by omega)
    rw [e1, e2]
    exact h
theorem bd_sign (T : Txt K mg t) : Binds K t.fd_sign ["number"] [] := T.F_sign.binds fun _ _ _ _ _ _ us hl => match us, hl with | [_], _ => rfl
def S_sign : SpP := fun ds Q => ∃ i : Int, ds = [.int i] ∧ Q (.int i.sign)
theorem ok_sign (T : Txt K mg t) : FnOk P w K mg base CX0 1 t.f_sign t.fd_sign ["number"] (spP K S_sign) := by
  refine fnP T.F_sign sc_sign (fun ds Q h => by (first | (obtain ⟨_, rfl, _⟩ := h; rfl) | (obtain ⟨_, _, rfl, _⟩ := h; rfl) | (obtain ⟨_, _, _, rfl, _⟩ := h; rfl) | (obtain ⟨_, _, _, _, rfl, _⟩ := h; rfl) | (obtain ⟨_, _, _, _, _, rfl, _⟩ := h; rfl) | (obtain ⟨_, _, _, _, _, _, rfl, _⟩ := h; rfl) | (obtain ⟨_, _, _, _, _, _, _, rfl, _⟩ := h; rfl))) (fun cdv A outer s H hr => ?_)
  have hu := hr.units
  refine ⟨_, (b_cons (s_if (k_cmp o_gt (q_var 0) q_int (nomark _)) (b_one (s_ret q_int)) b_nil)
      (b_cons (s_if (k_cmp (o_ltD hu) (q_var 0) q_int (nomark _)) (b_one (s_ret (q_neg q_int))) b_nil)
      (b_one (s_ret q_int)))), fun ds Q h => ?_⟩
  obtain ⟨i, rfl, h⟩ := h
  walk_at "rd"
  refine ite2 (fun c => ?_) (fun c => ?_)
  · have c : 0 < i := of_decide_eq_true c
    rw [Int.sign_eq_one_of_pos c] at h
    exact h
  · have c : ¬ 0 < i := fun z => c (decide_eq_true z)
    walk_at "rd"
    refine ite2 (fun e => ?_) (fun e => ?_)
    · have e : i < 0 := of_decide_eq_true e
      rw [Int.sign_eq_neg_one_of_neg e] at h
      walk_at "rd"
      exact h
    · have e : ¬ i < 0 := fun z => e (decide_eq_true z)
      have z : i = 0 := by omega
      subst z
      exact h
theorem bd_whole_square (T : Txt K mg t) : Binds K t.fd_whole_square ["p", "X"] [] := T.F_whole_square.binds fun _ _ _ _ _ _ us hl => match us, hl with | [_, _], _ => rfl
def S_whole_square : SpP := fun ds Q => ∃ (p f g : Pl), ds = [p.d, .tup [f.d, g.d]] ∧ p.Ok 140 ∧ f.Ok 1100 ∧ g.Ok 1100 ∧ Q (.int (sqN p f g))
theorem ok_whole_square (T : Txt K mg t) : FnOk P w K mg base CX0 1 t.f_whole_square t.fd_whole_square ["p", "X"] (spP K S_whole_square) := by
  refine fnP T.F_whole_square sc_whole_square (fun ds Q h => by (first | (obtain ⟨_, rfl, _⟩ := h; rfl) | (obtain ⟨_, _, rfl, _⟩ := h; rfl) | (obtain ⟨_, _, _, rfl, _⟩ := h; rfl) | (obtain ⟨_, _, _, _, rfl, _⟩ := h; rfl) | (obtain ⟨_, _, _, _, _, rfl, _⟩ := h; rfl) | (obtain ⟨_, _, _, _, _, _, rfl, _⟩ := h; rfl) | (obtain ⟨_, _, _, _, _, _, _, rfl, _⟩ := h; rfl))) (fun cdv A outer s H hr => ?_)
  have hu := hr.units
  refine ⟨_, (b_cons (s_set (i := 2) sc_whole_square.nd rfl (Or.inl rfl) (q_bin o_mul (q_bin o_sub (q_bin o_mul (q_ix (q_var 0) q_int) (q_ix (q_ix (q_var 1) q_int) q_int)) (q_ix (q_ix (q_var 1) q_int) q_int)) (q_ix (q_ix (q_var 1) q_int) q_int)))
      (b_cons (s_set (i := 3) sc_whole_square.nd rfl (Or.inl rfl) (q_bin o_mul (q_bin o_sub (q_bin o_mul (q_ix (q_var 0) q_int) (q_ix (q_ix (q_var 1) q_int) q_int)) (q_ix (q_ix (q_var 1) q_int) q_int)) (q_ix (q_ix (q_var 1) q_int) q_int)))
      (b_one (s_ret (q_bin o_add (q_bin o_mul (q_var 2) (q_var 2)) (q_bin o_mul (q_var 3) (q_var 3))))))), fun ds Q h => ?_⟩
  obtain ⟨p, f, g, rfl, ⟨p1, p2⟩, ⟨f1, f2⟩, ⟨g1, g2⟩, h⟩ := h
  unfold sqN at h
  walk_at "rd"
  exact h
theorem bd_nearer (T : Txt K mg t) : Binds K t.fd_nearer ["X", "p", "q"] [] := T.F_nearer.binds fun _ _ _ _ _ _ us hl => match us, hl with | [_, _, _], _ => rfl
def S_nearer : SpP := fun ds Q => ∃ (f g p q : Pl), ds = [.tup [f.d, g.d], p.d, q.d] ∧ p.Ok 140 ∧ q.Ok 140 ∧ f.Ok 1100 ∧ g.Ok 1100 ∧ 0 < f.y ∧ 0 < g.y ∧ Q (.int (nr f g p q))
theorem ok_nearer (T : Txt K mg t) : FnOk P w K mg base CX0 2 t.f_nearer t.fd_nearer ["X", "p", "q"] (spP K S_nearer) := by
  refine fnP T.F_nearer sc_nearer (fun ds Q h => by (first | (obtain ⟨_, rfl, _⟩ := h; rfl) | (obtain ⟨_, _, rfl, _⟩ := h; rfl) | (obtain ⟨_, _, _, rfl, _⟩ := h; rfl) | (obtain ⟨_, _, _, _, rfl, _⟩ := h; rfl) | (obtain ⟨_, _, _, _, _, rfl, _⟩ := h; rfl) | (obtain ⟨_, _, _, _, _, _, rfl, _⟩ := h; rfl) | (obtain ⟨_, _, _, _, _, _, _, rfl, _⟩ := h; rfl))) (fun cdv A outer s H hr => ?_)
  have hu := hr.units
  refine ⟨_, (b_one (s_ret (q_callP (ok_sign T) (hr.mono (by decide)) (by rfl) T.m_sign T.F_sign.kp (bd_sign T) (a_cons (q_bin o_sub (q_callP (ok_whole_square T) (hr.mono (by decide)) (by rfl) T.m_whole_square T.F_whole_square.kp (bd_whole_square T) (a_cons (q_var 2) (a_cons (q_var 0) a_nil))) (q_callP (ok_whole_square T) (hr.mono (by decide)) (by rfl) T.m_whole_square T.F_whole_square.kp (bd_whole_square T) (a_cons (q_var 1) (a_cons (q_var 0) a_nil)))) a_nil)))), fun ds Q h => ?_⟩
  obtain ⟨f, g, p, q, rfl, hp, hq, hf, hg, f0, g0, h⟩ := h
  walk_at "rd"
  refine ⟨hq, hf, hg, ?_⟩
  walk_at "rd"
  refine ⟨hp, hf, hg, ?_⟩
  walk_at "rd"
  rw [nr_eq f0 g0] at h
  exact h
theorem bd_common_divisor (T : Txt K mg t) : Binds K t.fd_common_divisor ["one", "other"] [] := T.F_common_divisor.binds fun _ _ _ _ _ _ us hl => match us, hl with | [_, _], _ => rfl
def S_common_divisor : SpP := fun ds Q => ∃ i j : Int, ds = [.int i, .int j] ∧ Q (.int (Int.gcd i j : Nat))
theorem ok_common_divisor (T : Txt K mg t) : FnOk P w K mg base CX0 1 t.f_common_divisor t.fd_common_divisor ["one", "other"] (spP K S_common_divisor) := by
  refine fnP T.F_common_divisor sc_common_divisor (fun ds Q h => by (first | (obtain ⟨_, rfl, _⟩ := h; rfl) | (obtain ⟨_, _, rfl, _⟩ := h; rfl) | (obtain ⟨_, _, _, rfl, _⟩ := h; rfl) | (obtain ⟨_, _, _, _, rfl, _⟩ := h; rfl) | (obtain ⟨_, _, _, _, _, rfl, _⟩ := h; rfl) | (obtain ⟨_, _, _, _, _, _, rfl, _⟩ := h; rfl) | (obtain ⟨_, _, _, _, _, _, _, rfl, _⟩ := h; rfl))) (fun cdv A outer s H hr => ?_)
  have hu := hr.units
  refine ⟨_, (b_cons (s_set (i := 2) sc_common_divisor.nd rfl (Or.inl rfl) (q_blt c_abs (by rfl) T.no_abs boot3_abs (a_cons (q_var 0) a_nil)))
      (b_cons (s_set (i := 3) sc_common_divisor.nd rfl (Or.inl rfl) (q_blt c_abs (by rfl) T.no_abs boot3_abs (a_cons (q_var 1) a_nil)))
      (b_cons (s_while PassesOwn.never (k_cmp (o_ne hu) (q_var 3) q_int (nomark _)) (b_cons (s_set (i := 4) sc_common_divisor.nd rfl (Or.inl rfl) (q_bin o_mod (q_var 2) (q_var 3)))
      (b_cons (s_set (i := 2) sc_common_divisor.nd rfl (Or.inl rfl) (q_var 3))
      (b_one (s_set (i := 3) sc_common_divisor.nd rfl (Or.inl rfl) (q_var 4))))))
      (b_one (s_ret (q_var 2)))))), fun ds Q h => ?_⟩
  obtain ⟨i, j, rfl, h⟩ := h
  walk_at "rd"
  refine ⟨fun m ρ M => ∃ (a : Nat) (r : Option L3.D), ρ = [some (.int i), some (.int j), some (.int (a : Int)), some (.int (m : Int)), r] ∧ Nat.gcd a m = Int.gcd i j, ⟨j.natAbs, i.natAbs, none, rfl, rfl⟩, ?_⟩
  rintro b ρ M ⟨a, r, rfl, hg⟩
  walk_at "rd"
  refine ite2 (fun c => ?_) (fun c => ?_)
  · have hb : b ≠ 0 := fun z => by subst z; revert c; decide
    walk_at "rd"
    have e : (a : Int) % (b : Int) = ((a % b : Nat) : Int) := by omega
    refine Hold.mk ⟨a % b, Nat.mod_lt _ (by omega), b, some (.int ((a % b : Nat) : Int)), by rw [← e]; rfl, ?_⟩
    rw [← hg, Nat.gcd_comm b (a % b)]
    exact (Nat.gcd_rec b a).symm.trans (Nat.gcd_comm b a)
  · have hb : b = 0 := by
      rcases Nat.eq_zero_or_pos b with z | z
      · exact z
      · exfalso
        apply c
        rw [eqD_int]
        have : ¬ ((b : Int) = 0) := by omega
        simp [this]
        omega
    subst hb
    walk_at "rd"
    rw [Nat.gcd_zero_right] at hg
    rw [hg]
    exact h
theorem bd_fraction (T : Txt K mg t) : Binds K t.fd_fraction ["top", "bottom"] [] := T.F_fraction.binds fun _ _ _ _ _ _ us hl => match us, hl with | [_, _], _ => rfl
def S_fraction : SpP := fun ds Q => ∃ (a b : Int) (n : Nat), ds = [.int a, .int b] ∧ b ≠ 0 ∧ Sm n a ∧ Sm n b ∧ n ≤ 7000 ∧ Q (frac a b).d
theorem ok_fraction (T : Txt K mg t) : FnOk P w K mg base CX0 2 t.f_fraction t.fd_fraction ["top", "bottom"] (spP K S_fraction) := by
  refine fnP T.F_fraction sc_fraction (fun ds Q h => by (first | (obtain ⟨_, rfl, _⟩ := h; rfl) | (obtain ⟨_, _, rfl, _⟩ := h; rfl) | (obtain ⟨_, _, _, rfl, _⟩ := h; rfl) | (obtain ⟨_, _, _, _, rfl, _⟩ := h; rfl) | (obtain ⟨_, _, _, _, _, rfl, _⟩ := h; rfl) | (obtain ⟨_, _, _, _, _, _, rfl, _⟩ := h; rfl) | (obtain ⟨_, _, _, _, _, _, _, rfl, _⟩ := h; rfl))) (fun cdv A outer s H hr => ?_)
  have hu := hr.units
  refine ⟨_, (b_cons (s_if (k_cmp (o_eq hu) (q_var 1) q_int (nomark _)) (b_one s_never) b_nil)
      (b_cons (s_set (i := 2) sc_fraction.nd rfl (Or.inl rfl) (q_bin o_mul (q_callP (ok_common_divisor T) (hr.mono (by decide)) (by rfl) T.m_common_divisor T.F_common_divisor.kp (bd_common_divisor T) (a_cons (q_var 0) (a_cons (q_var 1) a_nil))) (q_callP (ok_sign T) (hr.mono (by decide)) (by rfl) T.m_sign T.F_sign.kp (bd_sign T) (a_cons (q_var 1) a_nil))))
      (b_one (s_ret (q_tup (a_cons (q_bin o_fdivN (q_var 0) (q_var 2)) (a_cons (q_bin o_fdivN (q_var 1) (q_var 2)) a_nil))))))), fun ds Q h => ?_⟩
  obtain ⟨a, b, n, rfl, hb, sa, sb, hn, h⟩ := h
  walk_at "rd"
  refine ite2 (fun c => ?_) (fun c => ?_)
  · exfalso
    rw [eqD_int] at c
    exact hb (eq_of_beq c)
  have hg : (Int.gcd a b : Nat) ≤ b.natAbs := Nat.le_of_dvd (by omega) (Int.gcd_dvd_natAbs_right a b)
  have sg : Sm n ((Int.gcd a b : Nat) : Int) := sb.of_abs (by omega)
  have hg0 : 0 < Int.gcd a b := Int.gcd_pos_of_ne_zero_right a hb
  have hs := sign_sq hb
  have hd : (Int.gcd a b : Int) * b.sign ≠ 0 := by
    intro z
    rcases Int.mul_eq_zero.mp z with z | z
    · omega
    · rw [z] at hs; exact absurd hs (by decide)
  have sd : DivNOk 0 ((Int.gcd a b : Int) * b.sign) := ⟨hd, n + 1, Sm.mul sg (Sm.sign _), by omega⟩
  walk_at "rd"
  refine ⟨sd, ?_⟩
  walk_at "rd"
  refine ⟨sd, ?_⟩
  walk_at "rd"
  exact h
theorem bd_square (T : Txt K mg t) : Binds K t.fd_square ["p", "X"] [] := T.F_square.binds fun _ _ _ _ _ _ us hl => match us, hl with | [_, _], _ => rfl
def S_square : SpP := fun ds Q => ∃ (p f g : Pl), ds = [p.d, .tup [f.d, g.d]] ∧ p.Ok 140 ∧ f.Ok 1100 ∧ g.Ok 1100 ∧ 0 < f.y ∧ 0 < g.y ∧ Q (sq p f g).d
theorem ok_square (T : Txt K mg t) : FnOk P w K mg base CX0 3 t.f_square t.fd_square ["p", "X"] (spP K S_square) := by
  refine fnP T.F_square sc_square (fun ds Q h => by (first | (obtain ⟨_, rfl, _⟩ := h; rfl) | (obtain ⟨_, _, rfl, _⟩ := h; rfl) | (obtain ⟨_, _, _, rfl, _⟩ := h; rfl) | (obtain ⟨_, _, _, _, rfl, _⟩ := h; rfl) | (obtain ⟨_, _, _, _, _, rfl, _⟩ := h; rfl) | (obtain ⟨_, _, _, _, _, _, rfl, _⟩ := h; rfl) | (obtain ⟨_, _, _, _, _, _, _, rfl, _⟩ := h; rfl))) (fun cdv A outer s H hr => ?_)
  have hu := hr.units
  refine ⟨_, (b_cons (s_set (i := 2) sc_square.nd rfl (Or.inl rfl) (q_bin o_mul (q_ix (q_ix (q_var 1) q_int) q_int) (q_ix (q_ix (q_var 1) q_int) q_int)))
      (b_one (s_ret (q_callP (ok_fraction T) (hr.mono (by decide)) (by rfl) T.m_fraction T.F_fraction.kp (bd_fraction T) (a_cons (q_callP (ok_whole_square T) (hr.mono (by decide)) (by rfl) T.m_whole_square T.F_whole_square.kp (bd_whole_square T) (a_cons (q_var 0) (a_cons (q_var 1) a_nil))) (a_cons (q_bin o_mul (q_var 2) (q_var 2)) a_nil)))))), fun ds Q h => ?_⟩
  obtain ⟨p, f, g, rfl, hp, hf, hg, f0, g0, h⟩ := h
  obtain ⟨f1, f2⟩ := hf
  obtain ⟨g1, g2⟩ := hg
  have hb : 0 < f.y * g.y := Int.mul_pos f0 g0
  have hbb := Int.mul_pos hb hb
  walk_at "rd"
  refine ⟨hp, ⟨f1, f2⟩, ⟨g1, g2⟩, ?_⟩
  walk_at "rd"
  unfold sq at h
  refine ⟨_, _, 6000, rfl, by show f.y * g.y * (f.y * g.y) ≠ 0; omega, ?_, ?_, by decide, h⟩
  · obtain ⟨p1, p2⟩ := hp
    unfold sqN
    walk_at "smle"
  · walk_at "smle"
theorem bd__law_square (T : Txt K mg t) : Binds K t.fd__law_square ["_law_p", "_law_spot_here"] [] := T.F__law_square.binds fun _ _ _ _ _ _ us hl => match us, hl with | [_, _], _ => rfl
def S__law_square : SpP := fun ds Q => ∃ (p f g : Pl), ds = [p.d, .tup [f.d, g.d]] ∧ p.Ok 140 ∧ f.Ok 1100 ∧ g.Ok 1100 ∧ Q (.tup [.int (sqN p f g), .int (f.y * f.y * g.y * g.y)])
theorem ok__law_square (T : Txt K mg t) : FnOk P w K mg base CX0 1 t.f__law_square t.fd__law_square ["_law_p", "_law_spot_here"] (spP K S__law_square) := by
  refine fnP T.F__law_square sc__law_square (fun ds Q h => by (first | (obtain ⟨_, rfl, _⟩ := h; rfl) | (obtain ⟨_, _, rfl, _⟩ := h; rfl) | (obtain ⟨_, _, _, rfl, _⟩ := h; rfl) | (obtain ⟨_, _, _, _, rfl, _⟩ := h; rfl) | (obtain ⟨_, _, _, _, _, rfl, _⟩ := h; rfl) | (obtain ⟨_, _, _, _, _, _, rfl, _⟩ := h; rfl) | (obtain ⟨_, _, _, _, _, _, _, rfl, _⟩ := h; rfl))) (fun cdv A outer s H hr => ?_)
  have hu := hr.units
  refine ⟨_, (b_cons (s_set (i := 2) sc__law_square.nd rfl (Or.inl rfl) (q_bin o_mul (q_bin o_sub (q_ix (q_ix (q_var 1) q_int) q_int) (q_bin o_mul (q_ix (q_var 0) q_int) (q_ix (q_ix (q_var 1) q_int) q_int))) (q_ix (q_ix (q_var 1) q_int) q_int)))
      (b_cons (s_set (i := 3) sc__law_square.nd rfl (Or.inl rfl) (q_bin o_mul (q_bin o_sub (q_ix (q_ix (q_var 1) q_int) q_int) (q_bin o_mul (q_ix (q_var 0) q_int) (q_ix (q_ix (q_var 1) q_int) q_int))) (q_ix (q_ix (q_var 1) q_int) q_int)))
      (b_one (s_ret (q_tup (a_cons (q_bin o_add (q_bin o_mul (q_var 2) (q_var 2)) (q_bin o_mul (q_var 3) (q_var 3))) (a_cons (q_bin o_mul (q_bin o_mul (q_bin o_mul (q_ix (q_ix (q_var 1) q_int) q_int) (q_ix (q_ix (q_var 1) q_int) q_int)) (q_ix (q_ix (q_var 1) q_int) q_int)) (q_ix (q_ix (q_var 1) q_int) q_int)) a_nil))))))), fun ds Q h => ?_⟩
  obtain ⟨p, f, g, rfl, ⟨p1, p2⟩, ⟨f1, f2⟩, ⟨g1, g2⟩, h⟩ := h
  walk_at "rd"
  have e : sqN p f g = (f.x - p.x * f.y) * g.y * ((f.x - p.x * f.y) * g.y) + (g.x - p.y * g.y) * f.y * ((g.x - p.y * g.y) * f.y) := by unfold sqN; grind
  rw [e] at h
  exact h
theorem bd__law_int (T : Txt K mg t) : Binds K t.fd__law_int ["_law_thing"] [] := T.F__law_int.binds fun _ _ _ _ _ _ us hl => match us, hl with | [_], _ => rfl
def S__law_int : SpP := fun ds Q => ∃ i : Int, ds = [.int i] ∧ Q (.bl true)
theorem ok__law_int (T : Txt K mg t) : FnOk P w K mg base CX0 1 t.f__law_int t.fd__law_int ["_law_thing"] (spP K S__law_int) := by
  refine fnP T.F__law_int sc__law_int (fun ds Q h => by (first | (obtain ⟨_, rfl, _⟩ := h; rfl) | (obtain ⟨_, _, rfl, _⟩ := h; rfl) | (obtain ⟨_, _, _, rfl, _⟩ := h; rfl) | (obtain ⟨_, _, _, _, rfl, _⟩ := h; rfl) | (obtain ⟨_, _, _, _, _, rfl, _⟩ := h; rfl) | (obtain ⟨_, _, _, _, _, _, rfl, _⟩ := h; rfl) | (obtain ⟨_, _, _, _, _, _, _, rfl, _⟩ := h; rfl))) (fun cdv A outer s H hr => ?_)
  have hu := hr.units
  refine ⟨_, (b_one (s_ret (q_and (q_blt c_isT (by rfl) T.no_isinstance boot3_isinstance (a_cons (q_var 0) (a_cons (q_type (by rfl) T.no_int boot3_int) a_nil))) (q_and (q_cmp o_isNotB (q_var 0) q_bl (nomark _)) (q_one (q_cmp o_isNotB (q_var 0) q_bl (nomark _))))))), fun ds Q h => ?_⟩
  obtain ⟨i, rfl, h⟩ := h
  walk_at "rd"
  exact h
theorem bd__law_is_fraction (T : Txt K mg t) : Binds K t.fd__law_is_fraction ["_law_thing"] [] := T.F__law_is_fraction.binds fun _ _ _ _ _ _ us hl => match us, hl with | [_], _ => rfl
def S__law_is_fraction : SpP := fun ds Q => ∃ f : Pl, ds = [f.d] ∧ 0 < f.y ∧ Int.gcd f.x f.y = 1 ∧ Q (.bl true)
theorem ok__law_is_fraction (T : Txt K mg t) : FnOk P w K mg base CX0 2 t.f__law_is_fraction t.fd__law_is_fraction ["_law_thing"] (spP K S__law_is_fraction) := by
  refine fnP T.F__law_is_fraction sc__law_is_fraction (fun ds Q h => by (first | (obtain ⟨_, rfl, _⟩ := h; rfl) | (obtain ⟨_, _, rfl, _⟩ := h; rfl) | (obtain ⟨_, _, _, rfl, _⟩ := h; rfl) | (obtain ⟨_, _, _, _, rfl, _⟩ := h; rfl) | (obtain ⟨_, _, _, _, _, rfl, _⟩ := h; rfl) | (obtain ⟨_, _, _, _, _, _, rfl, _⟩ := h; rfl) | (obtain ⟨_, _, _, _, _, _, _, rfl, _⟩ := h; rfl))) (fun cdv A outer s H hr => ?_)
  have hu := hr.units
  refine ⟨_, (b_cons (s_if (PW3.pt (k_or (k_not (k_val (q_blt c_isT (by rfl) T.no_isinstance boot3_isinstance (a_cons (q_var 0) (a_cons (q_type (by rfl) T.no_tuple boot3_tuple) a_nil))))) (k_or1 (k_cmp (o_ne hu) (q_blt c_len (by rfl) T.no_len boot3_len (a_cons (q_var 0) a_nil)) q_int (nomark _))))) (b_one (s_ret q_bl)) b_nil)
      (b_cons (s_if (PW3.pt (k_or (k_not (k_val (q_callP (ok__law_int T) (hr.mono (by decide)) (by rfl) T.m__law_int T.F__law_int.kp (bd__law_int T) (a_cons (q_ix (q_var 0) q_int) a_nil)))) (k_or (k_not (k_val (q_callP (ok__law_int T) (hr.mono (by decide)) (by rfl) T.m__law_int T.F__law_int.kp (bd__law_int T) (a_cons (q_ix (q_var 0) q_int) a_nil)))) (k_or1 (k_cmp (o_ltD hu) (q_ix (q_var 0) q_int) q_int (nomark _)))))) (b_one (s_ret q_bl)) b_nil)
      (b_one (s_ret (q_cmp (o_eq hu) (q_callP (ok__law_shared T) (hr.mono (by decide)) (by rfl) T.m__law_shared T.F__law_shared.kp (bd__law_shared T) (a_cons (q_ix (q_var 0) q_int) (a_cons (q_ix (q_var 0) q_int) a_nil))) q_int (nomark _)))))), fun ds Q h => ?_⟩
  obtain ⟨f, rfl, hy, hg, h⟩ := h
  walk_at "rd"
  refine ite2 (fun c => ?_) (fun c => ?_)
  · exfalso
    have c : f.y < 1 := of_decide_eq_true c
    omega
  walk_at "rd"
  rw [hg]
  exact h
theorem bd__law_told (T : Txt K mg t) : Binds K t.fd__law_told ["_law_p", "_law_spot_here"] [] := T.F__law_told.binds fun _ _ _ _ _ _ us hl => match us, hl with | [_, _], _ => rfl
def S__law_told : SpP := fun ds Q => ∃ (p f g : Pl), ds = [p.d, .tup [f.d, g.d]] ∧ p.Ok 140 ∧ f.Ok 1100 ∧ g.Ok 1100 ∧ 0 < f.y ∧ 0 < g.y ∧ Q (.bl true)
theorem ok__law_told (T : Txt K mg t) : FnOk P w K mg base CX0 4 t.f__law_told t.fd__law_told ["_law_p", "_law_spot_here"] (spP K S__law_told) := by
  refine fnP T.F__law_told sc__law_told (fun ds Q h => by (first | (obtain ⟨_, rfl, _⟩ := h; rfl) | (obtain ⟨_, _, rfl, _⟩ := h; rfl) | (obtain ⟨_, _, _, rfl, _⟩ := h; rfl) | (obtain ⟨_, _, _, _, rfl, _⟩ := h; rfl) | (obtain ⟨_, _, _, _, _, rfl, _⟩ := h; rfl) | (obtain ⟨_, _, _, _, _, _, rfl, _⟩ := h; rfl) | (obtain ⟨_, _, _, _, _, _, _, rfl, _⟩ := h; rfl))) (fun cdv A outer s H hr => ?_)
  have hu := hr.units
  refine ⟨_, (b_cons (s_set (i := 2) sc__law_told.nd rfl (Or.inl rfl) (q_callP (ok_square T) (hr.mono (by decide)) (by rfl) T.m_square T.F_square.kp (bd_square T) (a_cons (q_var 0) (a_cons (q_var 1) a_nil))))
      (b_cons (s_set (i := 3) sc__law_told.nd rfl (Or.inl rfl) (q_callP (ok__law_square T) (hr.mono (by decide)) (by rfl) T.m__law_square T.F__law_square.kp (bd__law_square T) (a_cons (q_var 0) (a_cons (q_var 1) a_nil))))
      (b_one (s_ret (q_and (q_callP (ok__law_is_fraction T) (hr.mono (by decide)) (by rfl) T.m__law_is_fraction T.F__law_is_fraction.kp (bd__law_is_fraction T) (a_cons (q_var 2) a_nil)) (q_one (q_cmp (o_eq hu) (q_bin o_mul (q_ix (q_var 2) q_int) (q_ix (q_var 3) q_int)) (q_bin o_mul (q_ix (q_var 2) q_int) (q_ix (q_var 3) q_int)) (nomark _)))))))), fun ds Q h => ?_⟩
  obtain ⟨p, f, g, rfl, hp, hf, hg, f0, g0, h⟩ := h
  have o1 := sq_ok hp hf hg f0 g0
  have hb : 0 < f.y * g.y := Int.mul_pos f0 g0
  have hbb := Int.mul_pos hb hb
  obtain ⟨k1, k2, k3, _, _⟩ := sq_spec (p := p) f0 g0
  obtain ⟨q1, q2⟩ := id o1
  obtain ⟨p1, p2⟩ := id hp
  obtain ⟨f1, f2⟩ := id hf
  obtain ⟨g1, g2⟩ := id hg
  have sn : Sm 6000 (sqN p f g) := by
    unfold sqN
    walk_at "smle"
  walk_at "rd"
  refine ⟨hp, hf, hg, f0, g0, ?_⟩
  walk_at "rd"
  refine ⟨hp, hf, hg, ?_⟩
  walk_at "rd"
  refine ⟨k3, ?_⟩
  walk_at "rd"
  have e : (sq p f g).x * (f.y * f.y * g.y * g.y) = (sq p f g).y * sqN p f g := by
    have k2 : (sq p f g).x * (f.y * g.y * (f.y * g.y)) = sqN p f g * (sq p f g).y := k2
    grind
  show Q (.bl (eqD (.int ((sq p f g).x * (f.y * f.y * g.y * g.y))) (.int ((sq p f g).y * sqN p f g))))
  rw [e, eqD_int, beq_self_eq_true]
  exact h
theorem bd_law (T : Txt K mg t) : Binds K t.fd_law ["_law_script"] [] := T.F_law.binds fun _ _ _ _ _ _ us hl => match us, hl with | [_], _ => rfl
abbrev S_law := S_lawOf
theorem ok_law (T : Txt K mg t) : FnOk P w K mg base CX0 5 t.f_law t.fd_law ["_law_script"] (spP K S_law) := by
  refine fnP T.F_law sc_law (fun ds Q h => by (first | (obtain ⟨_, rfl, _⟩ := h; rfl) | (obtain ⟨_, _, rfl, _⟩ := h; rfl) | (obtain ⟨_, _, _, rfl, _⟩ := h; rfl) | (obtain ⟨_, _, _, _, rfl, _⟩ := h; rfl) | (obtain ⟨_, _, _, _, _, rfl, _⟩ := h; rfl) | (obtain ⟨_, _, _, _, _, _, rfl, _⟩ := h; rfl) | (obtain ⟨_, _, _, _, _, _, _, rfl, _⟩ := h; rfl))) (fun cdv A outer s H hr => ?_)
  have hu := hr.units
  refine ⟨_, (b_cons (s_asg (q_call (ok__law_spots T) (hr.mono (by decide)) (by rfl) T.m__law_spots T.F__law_spots.kp (bd__law_spots T) (a_cons (q_var 0) (a_cons q_int (a_cons q_int a_nil)))) (g_seq rfl (gs_cons (g_name (i := 1) sc_law.nd rfl (Or.inl rfl)) (gs_cons (g_name (i := 2) sc_law.nd rfl (Or.inl rfl)) gs_nil))))
      (b_cons (s_set (i := 3) sc_law.nd rfl (Or.inl rfl) (q_callP (ok__law_point T) (hr.mono (by decide)) (by rfl) T.m__law_point T.F__law_point.kp (bd__law_point T) (a_cons (q_var 0) (a_cons (q_var 1) (a_cons (q_var 2) a_nil)))))
      (b_cons (s_set (i := 4) sc_law.nd rfl (Or.inl rfl) q_int)
      (b_cons (s_ifJ (k_cmp (o_ne hu) (q_var 1) (q_var 2) (nomark _)) (b_one (s_set (i := 4) sc_law.nd rfl (Or.inl rfl) (q_neg (q_callP (ok__law_sign T) (hr.mono (by decide)) (by rfl) T.m__law_sign T.F__law_sign.kp (bd__law_sign T) (a_cons (q_bin o_sub (q_bin o_mod (q_callP (ok__law_nth T) (hr.mono (by decide)) (by rfl) T.m__law_nth T.F__law_nth.kp (bd__law_nth T) (a_cons (q_var 0) (a_cons q_int a_nil))) q_int) q_int) a_nil))))))
      (b_cons (s_ifJ (k_cmp (o_eq hu) (q_bin o_mod (q_callP (ok__law_nth T) (hr.mono (by decide)) (by rfl) T.m__law_nth T.F__law_nth.kp (bd__law_nth T) (a_cons (q_var 0) (a_cons q_int a_nil))) q_int) q_int (nomark _)) (b_cons (s_set (i := 3) sc_law.nd rfl (Or.inl rfl) (q_callP (ok__law_far T) (hr.mono (by decide)) (by rfl) T.m__law_far T.F__law_far.kp (bd__law_far T) (a_cons (q_var 0) a_nil)))
      (b_one (s_set (i := 4) sc_law.nd rfl (Or.inl rfl) (q_callP (ok__law_sign T) (hr.mono (by decide)) (by rfl) T.m__law_sign T.F__law_sign.kp (bd__law_sign T) (a_cons (q_bin o_sub (q_ix (q_callP (ok__law_square T) (hr.mono (by decide)) (by rfl) T.m__law_square T.F__law_square.kp (bd__law_square T) (a_cons (q_var 2) (a_cons (q_var 3) a_nil))) q_int) (q_ix (q_callP (ok__law_square T) (hr.mono (by decide)) (by rfl) T.m__law_square T.F__law_square.kp (bd__law_square T) (a_cons (q_var 1) (a_cons (q_var 3) a_nil))) q_int)) a_nil))))))
      (b_cons (s_if (PW3.pt (k_or (k_not (k_val (q_callP (ok__law_told T) (hr.mono (by decide)) (by rfl) T.m__law_told T.F__law_told.kp (bd__law_told T) (a_cons (q_var 1) (a_cons (q_var 3) a_nil))))) (k_or1 (k_not (k_val (q_callP (ok__law_told T) (hr.mono (by decide)) (by rfl) T.m__law_told T.F__law_told.kp (bd__law_told T) (a_cons (q_var 2) (a_cons (q_var 3) a_nil)))))))) (b_one (s_ret q_bl)) b_nil)
      (b_cons (s_forD PassesOwn.never rfl (a_cons (q_tup (a_cons (q_var 1) (a_cons (q_var 2) (a_cons (q_var 4) a_nil)))) (a_cons (q_tup (a_cons (q_var 2) (a_cons (q_var 1) (a_cons (q_neg (q_var 4)) a_nil)))) (a_cons (q_tup (a_cons (q_var 1) (a_cons (q_var 1) (a_cons q_int a_nil)))) a_nil))) (g_seq rfl (gs_cons (g_name (i := 5) sc_law.nd rfl (Or.inl rfl)) (gs_cons (g_name (i := 6) sc_law.nd rfl (Or.inl rfl)) (gs_cons (g_name (i := 7) sc_law.nd rfl (Or.inl rfl)) gs_nil)))) (b_cons (s_set (i := 8) sc_law.nd rfl (Or.inl rfl) (q_callP (ok_nearer T) (hr.mono (by decide)) (by rfl) T.m_nearer T.F_nearer.kp (bd_nearer T) (a_cons (q_var 3) (a_cons (q_var 5) (a_cons (q_var 6) a_nil)))))
      (b_one (s_if (PW3.pt (k_or (k_not (k_val (q_callP (ok__law_int T) (hr.mono (by decide)) (by rfl) T.m__law_int T.F__law_int.kp (bd__law_int T) (a_cons (q_var 8) a_nil)))) (k_or1 (k_cmp (o_ne hu) (q_var 8) (q_var 7) (nomark _))))) (b_one (s_ret q_bl)) b_nil))))
      (b_one (s_ret q_bl))))))))), fun ds Q h => ?_⟩
  obtain ⟨ns, rfl, hl, h⟩ := h
  walk_at "rd"
  intro l ps hl0 hlen hok
  match ps, hlen with
  | [p, q], _ =>
    have hp : p.Ok 140 := hok p (by simp)
    have hq : q.Ok 140 := hok q (by simp)
    refine ⟨_, .inr ⟨l, rfl, updM_same⟩, rfl, ?_⟩
    walk_at "rd"
    refine ⟨hp, hq, fun m al hm o1 o2 => ?_⟩
    obtain ⟨f0, f1, _⟩ := low_spec (a := ptX p q m al (nth ns 11 % 5 - 2)) (b := 2 * m) (by omega)
    obtain ⟨g0, g1, _⟩ := low_spec (a := ptY p q m al (nth ns 11 % 5 - 2)) (b := 2 * m) (by omega)
    generalize low (ptX p q m al (nth ns 11 % 5 - 2)) (2 * m) = f at *
    generalize low (ptY p q m al (nth ns 11 % 5 - 2)) (2 * m) = g at *
    walk_at "rd"
    refine ⟨fun ρ M' => ∃ due : Int, ρ = [some (.frl (ns.map L3.D.int)), some p.d, some q.d, some (.tup [f.d, g.d]), some (.int due), none, none, none, none] ∧ nr f g p q = due, ?_, ?_⟩
    · walk_at "rd"
      refine ite2 (fun c => ?_) (fun c => ?_)
      · have hpq : p ≠ q := by
          intro e
          rw [eqD_Pl, decide_eq_true e] at c
          exact absurd c (by decide)
        walk_at "rd"
        exact Hold.mk ⟨_, rfl, by rw [nr_eq f0 g0]; exact due_eq hm f0 g0 f1 g1 hpq⟩
      · have hpq : p = q := by
          apply Classical.byContradiction
          intro e
          apply c
          rw [eqD_Pl, decide_eq_false e]
          rfl
        exact Hold.mk ⟨0, rfl, by rw [← hpq]; exact nr_self f0 g0⟩
    clear f1 g1
    rintro ρ M' ⟨due, rfl, hdue⟩
    walk_at "rd"
    refine ⟨fun ρ M' => ∃ (f g : Pl) (due : Int), ρ = [some (.frl (ns.map L3.D.int)), some p.d, some q.d, some (.tup [f.d, g.d]), some (.int due), none, none, none, none] ∧ f.Ok 1100 ∧ g.Ok 1100 ∧ 0 < f.y ∧ 0 < g.y ∧ nr f g p q = due, ?_, ?_⟩
    · walk_at "rd"
      refine ite2 (fun _ => ?_) (fun _ => ?_)
      · walk_at "rd"
        intro f g o1 o2 f0 g0
        walk_at "rd"
        refine ⟨hq, o1, o2, ?_⟩
        walk_at "rd"
        refine ⟨hp, o1, o2, ?_⟩
        walk_at "rd"
        exact Hold.mk ⟨f, g, _, rfl, o1, o2, f0, g0, nr_eq f0 g0⟩
      · exact Hold.mk ⟨f, g, due, rfl, o1, o2, f0, g0, hdue⟩
    clear hdue f0 g0 o1 o2
    rintro ρ M' ⟨f, g, due, rfl, o1, o2, f0, g0, hdue⟩
    walk_at "rd"
    refine ⟨hp, o1, o2, f0, g0, ?_⟩
    walk_at "rd"
    refine ⟨hq, o1, o2, f0, g0, ?_⟩
    walk_at "rd"
    refine ⟨hp, hq, o1, o2, f0, g0, ?_⟩
    walk_at "rd"
    refine ite2 (fun c => absurd c (ne_int ?_)) (fun _ => ?_)
    · exact hdue
    walk_at "rd"
    refine ⟨hq, hp, o1, o2, f0, g0, ?_⟩
    walk_at "rd"
    refine ite2 (fun c => absurd c (ne_int ?_)) (fun _ => ?_)
    · rw [nr_swap f0 g0, hdue]
    walk_at "rd"
    refine ⟨hp, hp, o1, o2, f0, g0, ?_⟩
    walk_at "rd"
    refine ite2 (fun c => absurd c (ne_int ?_)) (fun _ => ?_)
    · exact nr_self f0 g0
    walk_at "rd"
    exact h
end
theorem all_mk {l : PySem.W.OpenLaw} {w : World} {K : PySem.W.Frag} {h : Heap} {mg : Str → Option Value} {fa : Addr} (X : K.In h) (G : h.Ns mainGlobals mg) (hfa : mg "law" = some (.ref fa))
    {f0 : Addr} {od0 an0 : Option Addr} {sl0 : Array (Option Value)} {oc0 kV0 dc0 pm0 cd0 ct0 : Value}
    {f1 : Addr} {od1 an1 : Option Addr} {sl1 : Array (Option Value)} {oc1 kV1 dc1 pm1 cd1 ct1 : Value}
    {f2 : Addr} {od2 an2 : Option Addr} {sl2 : Array (Option Value)} {oc2 kV2 dc2 pm2 cd2 ct2 : Value}
    {f3 : Addr} {od3 an3 : Option Addr} {sl3 : Array (Option Value)} {oc3 kV3 dc3 pm3 cd3 ct3 : Value}
    {f4 : Addr} {od4 an4 : Option Addr} {sl4 : Array (Option Value)} {oc4 kV4 dc4 pm4 cd4 ct4 : Value}
    {f5 : Addr} {od5 an5 : Option Addr} {sl5 : Array (Option Value)} {oc5 kV5 dc5 pm5 cd5 ct5 : Value}
    {f6 : Addr} {od6 an6 : Option Addr} {sl6 : Array (Option Value)} {oc6 kV6 dc6 pm6 cd6 ct6 : Value}
    {f7 : Addr} {od7 an7 : Option Addr} {sl7 : Array (Option Value)} {oc7 kV7 dc7 pm7 cd7 ct7 : Value}
    {f8 : Addr} {od8 an8 : Option Addr} {sl8 : Array (Option Value)} {oc8 kV8 dc8 pm8 cd8 ct8 : Value}
    {f9 : Addr} {od9 an9 : Option Addr} {sl9 : Array (Option Value)} {oc9 kV9 dc9 pm9 cd9 ct9 : Value}
    {f10 : Addr} {od10 an10 : Option Addr} {sl10 : Array (Option Value)} {oc10 kV10 dc10 pm10 cd10 ct10 : Value}
    {f11 : Addr} {od11 an11 : Option Addr} {sl11 : Array (Option Value)} {oc11 kV11 dc11 pm11 cd11 ct11 : Value}
    {f12 : Addr} {od12 an12 : Option Addr} {sl12 : Array (Option Value)} {oc12 kV12 dc12 pm12 cd12 ct12 : Value}
    {f13 : Addr} {od13 an13 : Option Addr} {sl13 : Array (Option Value)} {oc13 kV13 dc13 pm13 cd13 ct13 : Value}
    {f14 : Addr} {od14 an14 : Option Addr} {sl14 : Array (Option Value)} {oc14 kV14 dc14 pm14 cd14 ct14 : Value}
    {f15 : Addr} {od15 an15 : Option Addr} {sl15 : Array (Option Value)} {oc15 kV15 dc15 pm15 cd15 ct15 : Value}
    {f16 : Addr} {od16 an16 : Option Addr} {sl16 : Array (Option Value)} {oc16 kV16 dc16 pm16 cd16 ct16 : Value}
    {f17 : Addr} {od17 an17 : Option Addr} {sl17 : Array (Option Value)} {oc17 kV17 dc17 pm17 cd17 ct17 : Value}
    {f18 : Addr} {od18 an18 : Option Addr} {sl18 : Array (Option Value)} {oc18 kV18 dc18 pm18 cd18 ct18 : Value}
    (a0 : PySem.W.nsIn K mainGlobals "_law_nth" = some (some (.ref f0))) (l0 : K.lookup f0 = some ⟨oc0, od0, .func (PySem.W.fnOf "_law_nth" "_law_nth" (defArgs s__law_nth) (defBody s__law_nth) (defScope s__law_nth) .none kV0 dc0 pm0 an0 cd0 ct0), sl0⟩) (c0 : PySem.W.codeIn K cd0 "_law_nth" = true) (k0 : PySem.W.keepIn K (.ref f0) = true)
    (a1 : PySem.W.nsIn K mainGlobals "_law_spot" = some (some (.ref f1))) (l1 : K.lookup f1 = some ⟨oc1, od1, .func (PySem.W.fnOf "_law_spot" "_law_spot" (defArgs s__law_spot) (defBody s__law_spot) (defScope s__law_spot) .none kV1 dc1 pm1 an1 cd1 ct1), sl1⟩) (c1 : PySem.W.codeIn K cd1 "_law_spot" = true) (k1 : PySem.W.keepIn K (.ref f1) = true)
    (a2 : PySem.W.nsIn K mainGlobals "_law_spots" = some (some (.ref f2))) (l2 : K.lookup f2 = some ⟨oc2, od2, .func (PySem.W.fnOf "_law_spots" "_law_spots" (defArgs s__law_spots) (defBody s__law_spots) (defScope s__law_spots) .none kV2 dc2 pm2 an2 cd2 ct2), sl2⟩) (c2 : PySem.W.codeIn K cd2 "_law_spots" = true) (k2 : PySem.W.keepIn K (.ref f2) = true)
    (a3 : PySem.W.nsIn K mainGlobals "_law_shared" = some (some (.ref f3))) (l3 : K.lookup f3 = some ⟨oc3, od3, .func (PySem.W.fnOf "_law_shared" "_law_shared" (defArgs s__law_shared) (defBody s__law_shared) (defScope s__law_shared) .none kV3 dc3 pm3 an3 cd3 ct3), sl3⟩) (c3 : PySem.W.codeIn K cd3 "_law_shared" = true) (k3 : PySem.W.keepIn K (.ref f3) = true)
    (a4 : PySem.W.nsIn K mainGlobals "_law_lowest" = some (some (.ref f4))) (l4 : K.lookup f4 = some ⟨oc4, od4, .func (PySem.W.fnOf "_law_lowest" "_law_lowest" (defArgs s__law_lowest) (defBody s__law_lowest) (defScope s__law_lowest) .none kV4 dc4 pm4 an4 cd4 ct4), sl4⟩) (c4 : PySem.W.codeIn K cd4 "_law_lowest" = true) (k4 : PySem.W.keepIn K (.ref f4) = true)
    (a5 : PySem.W.nsIn K mainGlobals "_law_point" = some (some (.ref f5))) (l5 : K.lookup f5 = some ⟨oc5, od5, .func (PySem.W.fnOf "_law_point" "_law_point" (defArgs s__law_point) (defBody s__law_point) (defScope s__law_point) .none kV5 dc5 pm5 an5 cd5 ct5), sl5⟩) (c5 : PySem.W.codeIn K cd5 "_law_point" = true) (k5 : PySem.W.keepIn K (.ref f5) = true)
    (a6 : PySem.W.nsIn K mainGlobals "_law_far" = some (some (.ref f6))) (l6 : K.lookup f6 = some ⟨oc6, od6, .func (PySem.W.fnOf "_law_far" "_law_far" (defArgs s__law_far) (defBody s__law_far) (defScope s__law_far) .none kV6 dc6 pm6 an6 cd6 ct6), sl6⟩) (c6 : PySem.W.codeIn K cd6 "_law_far" = true) (k6 : PySem.W.keepIn K (.ref f6) = true)
    (a7 : PySem.W.nsIn K mainGlobals "_law_sign" = some (some (.ref f7))) (l7 : K.lookup f7 = some ⟨oc7, od7, .func (PySem.W.fnOf "_law_sign" "_law_sign" (defArgs s__law_sign) (defBody s__law_sign) (defScope s__law_sign) .none kV7 dc7 pm7 an7 cd7 ct7), sl7⟩) (c7 : PySem.W.codeIn K cd7 "_law_sign" = true) (k7 : PySem.W.keepIn K (.ref f7) = true)
    (a8 : PySem.W.nsIn K mainGlobals "sign" = some (some (.ref f8))) (l8 : K.lookup f8 = some ⟨oc8, od8, .func (PySem.W.fnOf "sign" "sign" (defArgs s_sign) (defBody s_sign) (defScope s_sign) .none kV8 dc8 pm8 an8 cd8 ct8), sl8⟩) (c8 : PySem.W.codeIn K cd8 "sign" = true) (k8 : PySem.W.keepIn K (.ref f8) = true)
    (a9 : PySem.W.nsIn K mainGlobals "whole_square" = some (some (.ref f9))) (l9 : K.lookup f9 = some ⟨oc9, od9, .func (PySem.W.fnOf "whole_square" "whole_square" (defArgs s_whole_square) (defBody s_whole_square) (defScope s_whole_square) .none kV9 dc9 pm9 an9 cd9 ct9), sl9⟩) (c9 : PySem.W.codeIn K cd9 "whole_square" = true) (k9 : PySem.W.keepIn K (.ref f9) = true)
    (a10 : PySem.W.nsIn K mainGlobals "nearer" = some (some (.ref f10))) (l10 : K.lookup f10 = some ⟨oc10, od10, .func (PySem.W.fnOf "nearer" "nearer" (defArgs s_nearer) (defBody s_nearer) (defScope s_nearer) .none kV10 dc10 pm10 an10 cd10 ct10), sl10⟩) (c10 : PySem.W.codeIn K cd10 "nearer" = true) (k10 : PySem.W.keepIn K (.ref f10) = true)
    (a11 : PySem.W.nsIn K mainGlobals "common_divisor" = some (some (.ref f11))) (l11 : K.lookup f11 = some ⟨oc11, od11, .func (PySem.W.fnOf "common_divisor" "common_divisor" (defArgs s_common_divisor) (defBody s_common_divisor) (defScope s_common_divisor) .none kV11 dc11 pm11 an11 cd11 ct11), sl11⟩) (c11 : PySem.W.codeIn K cd11 "common_divisor" = true) (k11 : PySem.W.keepIn K (.ref f11) = true)
    (a12 : PySem.W.nsIn K mainGlobals "fraction" = some (some (.ref f12))) (l12 : K.lookup f12 = some ⟨oc12, od12, .func (PySem.W.fnOf "fraction" "fraction" (defArgs s_fraction) (defBody s_fraction) (defScope s_fraction) .none kV12 dc12 pm12 an12 cd12 ct12), sl12⟩) (c12 : PySem.W.codeIn K cd12 "fraction" = true) (k12 : PySem.W.keepIn K (.ref f12) = true)
    (a13 : PySem.W.nsIn K mainGlobals "square" = some (some (.ref f13))) (l13 : K.lookup f13 = some ⟨oc13, od13, .func (PySem.W.fnOf "square" "square" (defArgs s_square) (defBody s_square) (defScope s_square) .none kV13 dc13 pm13 an13 cd13 ct13), sl13⟩) (c13 : PySem.W.codeIn K cd13 "square" = true) (k13 : PySem.W.keepIn K (.ref f13) = true)
    (a14 : PySem.W.nsIn K mainGlobals "_law_square" = some (some (.ref f14))) (l14 : K.lookup f14 = some ⟨oc14, od14, .func (PySem.W.fnOf "_law_square" "_law_square" (defArgs s__law_square) (defBody s__law_square) (defScope s__law_square) .none kV14 dc14 pm14 an14 cd14 ct14), sl14⟩) (c14 : PySem.W.codeIn K cd14 "_law_square" = true) (k14 : PySem.W.keepIn K (.ref f14) = true)
    (a15 : PySem.W.nsIn K mainGlobals "_law_int" = some (some (.ref f15))) (l15 : K.lookup f15 = some ⟨oc15, od15, .func (PySem.W.fnOf "_law_int" "_law_int" (defArgs s__law_int) (defBody s__law_int) (defScope s__law_int) .none kV15 dc15 pm15 an15 cd15 ct15), sl15⟩) (c15 : PySem.W.codeIn K cd15 "_law_int" = true) (k15 : PySem.W.keepIn K (.ref f15) = true)
    (a16 : PySem.W.nsIn K mainGlobals "_law_is_fraction" = some (some (.ref f16))) (l16 : K.lookup f16 = some ⟨oc16, od16, .func (PySem.W.fnOf "_law_is_fraction" "_law_is_fraction" (defArgs s__law_is_fraction) (defBody s__law_is_fraction) (defScope s__law_is_fraction) .none kV16 dc16 pm16 an16 cd16 ct16), sl16⟩) (c16 : PySem.W.codeIn K cd16 "_law_is_fraction" = true) (k16 : PySem.W.keepIn K (.ref f16) = true)
    (a17 : PySem.W.nsIn K mainGlobals "_law_told" = some (some (.ref f17))) (l17 : K.lookup f17 = some ⟨oc17, od17, .func (PySem.W.fnOf "_law_told" "_law_told" (defArgs s__law_told) (defBody s__law_told) (defScope s__law_told) .none kV17 dc17 pm17 an17 cd17 ct17), sl17⟩) (c17 : PySem.W.codeIn K cd17 "_law_told" = true) (k17 : PySem.W.keepIn K (.ref f17) = true)
    (a18 : PySem.W.nsIn K mainGlobals "law" = some (some (.ref f18))) (l18 : K.lookup f18 = some ⟨oc18, od18, .func (PySem.W.fnOf "law" "law" (defArgs s_law) (defBody s_law) (defScope s_law) .none kV18 dc18 pm18 an18 cd18 ct18), sl18⟩) (c18 : PySem.W.codeIn K cd18 "law" = true) (k18 : PySem.W.keepIn K (.ref f18) = true)
    (z0 : PySem.W.nsIn K mainGlobals "len" = some none)
    (z1 : PySem.W.nsIn K mainGlobals "int" = some none)
    (z2 : PySem.W.nsIn K mainGlobals "range" = some none)
    (z3 : PySem.W.nsIn K mainGlobals "abs" = some none)
    (z4 : PySem.W.nsIn K mainGlobals "isinstance" = some none)
    (z5 : PySem.W.nsIn K mainGlobals "tuple" = some none) :
    ∃ fd : FuncData, (∀ (s : Shared) (v : Value), BindsTo s fd ⟨[v], []⟩ [("_law_script", v)]) ∧ ∀ base : Heap, K.In base → base.Ns mainGlobals mg → FnOk l.prog w K mg base CX0 5 fa fd ["_law_script"] (spP K S_law) := by
  have e := hfa.symm.trans (PySem.W.mg_of X G a18)
  cases e
  have T : Txt K mg ⟨_, _, _, _, _, _, _, _, _, _, _, _, _, _, _, _, _, _, _, _, _, _, _, _, _, _, _, _, _, _, _, _, _, _, _, _, _, _⟩ := ⟨fun_mk (st := s__law_nth) l0 c0 k0, PySem.W.mg_of X G a0, fun_mk (st := s__law_spot) l1 c1 k1, PySem.W.mg_of X G a1, fun_mk (st := s__law_spots) l2 c2 k2, PySem.W.mg_of X G a2, fun_mk (st := s__law_shared) l3 c3 k3, PySem.W.mg_of X G a3, fun_mk (st := s__law_lowest) l4 c4 k4, PySem.W.mg_of X G a4, fun_mk (st := s__law_point) l5 c5 k5, PySem.W.mg_of X G a5, fun_mk (st := s__law_far) l6 c6 k6, PySem.W.mg_of X G a6, fun_mk (st := s__law_sign) l7 c7 k7, PySem.W.mg_of X G a7, fun_mk (st := s_sign) l8 c8 k8, PySem.W.mg_of X G a8, fun_mk (st := s_whole_square) l9 c9 k9, PySem.W.mg_of X G a9, fun_mk (st := s_nearer) l10 c10 k10, PySem.W.mg_of X G a10, fun_mk (st := s_common_divisor) l11 c11 k11, PySem.W.mg_of X G a11, fun_mk (st := s_fraction) l12 c12 k12, PySem.W.mg_of X G a12, fun_mk (st := s_square) l13 c13 k13, PySem.W.mg_of X G a13, fun_mk (st := s__law_square) l14 c14 k14, PySem.W.mg_of X G a14, fun_mk (st := s__law_int) l15 c15 k15, PySem.W.mg_of X G a15, fun_mk (st := s__law_is_fraction) l16 c16 k16, PySem.W.mg_of X G a16, fun_mk (st := s__law_told) l17 c17 k17, PySem.W.mg_of X G a17, fun_mk (st := s_law) l18 c18 k18, PySem.W.mg_of X G a18, PySem.W.mg_none_of X G z0, PySem.W.mg_none_of X G z1, PySem.W.mg_none_of X G z2, PySem.W.mg_none_of X G z3, PySem.W.mg_none_of X G z4, PySem.W.mg_none_of X G z5⟩
  exact ⟨_, fun s v => .of_eq rfl, fun base _ _ => ok_law T⟩
end Pf
open PySem PySem.W PyProof.Rows
set_option maxRecDepth 100000 in
set_option maxHeartbeats 0 in
theorem PySem.Challenge.cw_nearland_k17_nearer_holds : PySem.Challenge.rw_nearland_k17_nearer.Holds := by
  w_on; o_law; k_head; (case hw => w_witness2)
  k_fill
  refine L2.walk_ofK (l := PySem.Challenge.rw_nearland_k17_nearer) (n := 63) (k := 5) (x := "_law_script") (CX := L2.CX0) (sp := fun K => L3.spP K Pf.S_law) rfl (by decide) rfl ⟨rfl, by decide, by decide⟩ (fun w h Y => PySem.W.kIn_of Y) ?F (fun K H a ns hl hO hS => L3.law_sp hl hO hS) (fun _ _ _ _ z => z)
  case F =>
    intro w mg fa h KX G hmg
    refine' Pf.all_mk KX G hmg ?a0 ?l0 ?c0 ?k0 ?a1 ?l1 ?c1 ?k1 ?a2 ?l2 ?c2 ?k2 ?a3 ?l3 ?c3 ?k3 ?a4 ?l4 ?c4 ?k4 ?a5 ?l5 ?c5 ?k5 ?a6 ?l6 ?c6 ?k6 ?a7 ?l7 ?c7 ?k7 ?a8 ?l8 ?c8 ?k8 ?a9 ?l9 ?c9 ?k9 ?a10 ?l10 ?c10 ?k10 ?a11 ?l11 ?c11 ?k11 ?a12 ?l12 ?c12 ?k12 ?a13 ?l13 ?c13 ?k13 ?a14 ?l14 ?c14 ?k14 ?a15 ?l15 ?c15 ?k15 ?a16 ?l16 ?c16 ?k16 ?a17 ?l17 ?c17 ?k17 ?a18 ?l18 ?c18 ?k18 ?z0 ?z1 ?z2 ?z3 ?z4 ?z5
    (case a0 => k_is)
    (case l0 => k_is)
    (case c0 => k_is)
    (case k0 => k_is)
    (case a1 => k_is)
    (case l1 => k_is)
    (case c1 => k_is)
    (case k1 => k_is)
    (case a2 => k_is)
    (case l2 => k_is)
    (case c2 => k_is)
    (case k2 => k_is)
    (case a3 => k_is)
    (case l3 => k_is)
    (case c3 => k_is)
    (case k3 => k_is)
    (case a4 => k_is)
    (case l4 => k_is)
    (case c4 => k_is)
    (case k4 => k_is)
    (case a5 => k_is)
    (case l5 => k_is)
    (case c5 => k_is)
    (case k5 => k_is)
    (case a6 => k_is)
    (case l6 => k_is)
    (case c6 => k_is)
    (case k6 => k_is)
    (case a7 => k_is)
    (case l7 => k_is)
    (case c7 => k_is)
    (case k7 => k_is)
    (case a8 => k_is)
    (case l8 => k_is)
    (case c8 => k_is)
    (case k8 => k_is)
    (case a9 => k_is)
    (case l9 => k_is)
    (case c9 => k_is)
    (case k9 => k_is)
    (case a10 => k_is)
    (case l10 => k_is)
    (case c10 => k_is)
    (case k10 => k_is)
    (case a11 => k_is)
    (case l11 => k_is)
    (case c11 => k_is)
    (case k11 => k_is)
    (case a12 => k_is)
    (case l12 => k_is)
    (case c12 => k_is)
    (case k12 => k_is)
    (case a13 => k_is)
    (case l13 => k_is)
    (case c13 => k_is)
    (case k13 => k_is)
    (case a14 => k_is)
    (case l14 => k_is)
    (case c14 => k_is)
    (case k14 => k_is)
    (case a15 => k_is)
    (case l15 => k_is)
    (case c15 => k_is)
    (case k15 => k_is)
    (case a16 => k_is)
    (case l16 => k_is)
    (case c16 => k_is)
    (case k16 => k_is)
    (case a17 => k_is)
    (case l17 => k_is)
    (case c17 => k_is)
    (case k17 => k_is)
    (case a18 => k_is)
    (case l18 => k_is)
    (case c18 => k_is)
    (case k18 => k_is)
    (case z0 => k_is)
    (case z1 => k_is)
    (case z2 => k_is)
    (case z3 => k_is)
    (case z4 => k_is)
    (case z5 => k_is)

