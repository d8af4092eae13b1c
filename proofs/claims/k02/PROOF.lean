import PyProof.Rows.All
import Wide.All
import OpenK.AllK
import Wide.FinOn
import Lean
import PyProof.EqAt
import PyProof.EqKinds
import PyProof.TupleCall
import PySem.Challenge.RW_quoteweave_k02_numbers

set_option Elab.async false
set_option linter.all false
set_option maxRecDepth 100000
/-! THE HAND LAYER, for ints, bools, texts, own classes, LISTS and tuples (index, slices, in, append, pop ..), calls, loops. Paste it whole ahead of your own text; what your proof does not reach may be deleted. -/
namespace L2
open PySem PySem.Spec PyProof.Rows

/-- a key: an int or a str -/
abbrev Key := Sum Int Str
def keyIs : Key → Value → Bool
  | .inl k, v => Value.isInt k v
  | .inr x, v => Value.isStrOf x v
def keyH (w : World) : Key → Int
  | .inl k => hashInt k
  | .inr x => hashStr w x
theorem keyIs_shape : ∀ {k : Key} {v : Value}, keyIs k v = true → (∃ i t, k = Sum.inl i ∧ v = Value.int i t) ∨ (∃ x t, k = Sum.inr x ∧ v = Value.str x t)
  | .inl i, v, h => by
    obtain ⟨t, e⟩ := Value.isInt_shape (k := i) (v := v) h
    exact .inl ⟨i, t, rfl, e⟩
  | .inr x, v, h => by
    obtain ⟨t, e⟩ := Value.isStrOf_shape (x := x) (v := v) h
    exact .inr ⟨x, t, rfl, e⟩
theorem keyIs_int (i : Int) (t : Tok) : keyIs (.inl i) (.int i t) = true := by simp [keyIs, Value.isInt]
theorem keyIs_str (x : Str) (t : Tok) : keyIs (.inr x) (.str x t) = true := by simp [keyIs, Value.isStrOf]
theorem key_ll (a b : Int) : decide ((Sum.inl a : Key) = Sum.inl b) = (a == b) := by
  by_cases e : a = b
  · subst e; simp
  · have h : ¬ (Sum.inl a : Key) = Sum.inl b := fun q => e (Sum.inl.inj q)
    rw [decide_eq_false h]
    exact (beq_eq_false_iff_ne.mpr e).symm
theorem key_rr (a b : Str) : decide ((Sum.inr a : Key) = Sum.inr b) = decide (a = b) := by
  by_cases e : a = b
  · subst e; simp
  · have h : ¬ (Sum.inr a : Key) = Sum.inr b := fun q => e (Sum.inr.inj q)
    rw [decide_eq_false h, decide_eq_false e]
theorem key_lr (a : Int) (b : Str) : decide ((Sum.inl a : Key) = Sum.inr b) = false := decide_eq_false (fun q => nomatch q)
theorem key_rl (a : Str) (b : Int) : decide ((Sum.inr a : Key) = Sum.inl b) = false := decide_eq_false (fun q => nomatch q)

def mixKind (prog : Program) (w : World) : PySem.KeyKind prog w Key where
  is := keyIs
  hash := keyH w
  inj := fun v a b ha hb => by
    rcases keyIs_shape ha with ⟨i, t, rfl, rfl⟩ | ⟨x, t, rfl, rfl⟩
    · rcases keyIs_shape hb with ⟨j, u, rfl, e⟩ | ⟨y, u, rfl, e⟩
      · injection e with e1 _; rw [e1]
      · exact nomatch e
    · rcases keyIs_shape hb with ⟨j, u, rfl, e⟩ | ⟨y, u, rfl, e⟩
      · exact nomatch e
      · injection e with e1 _; rw [e1]
  byValue := fun k v h => by
    rcases keyIs_shape h with ⟨i, t, rfl, rfl⟩ | ⟨x, t, rfl, rfl⟩ <;> rfl
  pyHash := fun hv h => by
    rcases keyIs_shape hv with ⟨i, t, rfl, rfl⟩ | ⟨x, t, rfl, rfl⟩
    · exact wpAny_pyHash_int h
    · exact wpAny_pyHash_str h
  eqBool := fun hu hv h => by
    rcases keyIs_shape hu with ⟨i, t, rfl, rfl⟩ | ⟨x, t, rfl, rfl⟩
    · rcases keyIs_shape hv with ⟨j, u, rfl, rfl⟩ | ⟨y, u, rfl, rfl⟩
      · rw [key_ll] at h; exact wpAny_eqBool_int h
      · rw [key_lr] at h; exact SeqAt.EqAt.int_str i t y u _ _ _ _ h
    · rcases keyIs_shape hv with ⟨j, u, rfl, rfl⟩ | ⟨y, u, rfl, rfl⟩
      · rw [key_rl] at h; exact SeqAt.EqAt.str_int x t j u _ _ _ _ h
      · rw [key_rr] at h; exact wpAny_eqBool_str h
  «strs» := fun k x t v h => by
    rcases keyIs_shape h with ⟨i, u, rfl, e⟩ | ⟨y, u, rfl, e⟩
    · exact nomatch e
    · injection e with e1 _
      subst e1
      cases v <;> rfl

theorem mixKind_is (prog : Program) (w : World) (k : Key) (v : Value) : (mixKind prog w).is k v = keyIs k v := rfl
theorem mixKind_int (prog : Program) (w : World) (i : Int) (t : Tok) : (mixKind prog w).is (.inl i) (.int i t) = true := keyIs_int i t
theorem mixKind_str (prog : Program) (w : World) (x : Str) (t : Tok) : (mixKind prog w).is (.inr x) (.str x t) = true := keyIs_str x t
end L2

namespace L2
open PySem PySem.Spec PyProof.Rows

/-- a value, without the heap -/
inductive V where
  | non | bl (b : Bool) | int (i : Int) | str (x : Str) | byt (b : Array UInt8) | flt (b : UInt64) | ref (a : Addr) | ty (n : String)
  deriving DecidableEq

def RelV : V → Value → Prop
  | .non, u => u = Value.none
  | .bl b, u => u = Value.bool b
  | .int i, u => ∃ t, u = Value.int i t
  | .str x, u => ∃ t, u = Value.str x t
  | .byt b, u => ∃ t, u = Value.bytes b t
  | .flt b, u => ∃ t, u = Value.float b t
  | .ref a, u => u = Value.ref a
  | .ty n, u => u = Value.type n

abbrev Vals : List V → List Value → Prop := Paired RelV
theorem Vals.length {xs : List V} {us : List Value} (r : Vals xs us) : xs.length = us.length := Paired.length r
theorem Vals.get : ∀ {xs : List V} {us : List Value} {i : Nat} {x : V}, Vals xs us → xs[i]? = some x → ∃ u, us[i]? = some u ∧ RelV x u
  | _, _, _, _, .nil, e => by simp at e
  | _, _, 0, _, .cons r _, e => by simp at e; subst e; exact ⟨_, rfl, r⟩
  | _, _, i + 1, x, .cons _ t, e => by
    obtain ⟨u, h1, h2⟩ := Vals.get (i := i) (x := x) t (by simpa using e)
    exact ⟨u, by simpa using h1, h2⟩
theorem Vals.set {x : V} {u : Value} (r : RelV x u) : ∀ {xs : List V} {us : List Value} (i : Nat), Vals xs us → Vals (xs.set i x) (us.set i u)
  | _, _, _, .nil => .nil
  | _, _, 0, .cons _ t => .cons r t
  | _, _, i + 1, .cons q t => .cons q (Vals.set r i t)
theorem Vals.append : ∀ {xs ys : List V} {us ws : List Value}, Vals xs us → Vals ys ws → Vals (xs ++ ys) (us ++ ws)
  | _, _, _, _, .nil, s => s
  | _, _, _, _, .cons r t, s => .cons r (Vals.append t s)
theorem Vals.take : ∀ {xs : List V} {us : List Value} (n : Nat), Vals xs us → Vals (xs.take n) (us.take n)
  | _, _, 0, _ => .nil
  | _, _, _ + 1, .nil => .nil
  | _, _, n + 1, .cons r t => .cons r (Vals.take n t)
theorem Vals.drop : ∀ {xs : List V} {us : List Value} (n : Nat), Vals xs us → Vals (xs.drop n) (us.drop n)
  | _, _, 0, r => r
  | _, _, _ + 1, .nil => .nil
  | _, _, n + 1, .cons _ t => Vals.drop n t
theorem Vals.none_of : ∀ {xs : List V} {us : List Value} {i : Nat}, Vals xs us → xs[i]? = none → us[i]? = none := fun {xs us i} r e => by
  have h1 := r.length
  have h2 : xs.length ≤ i := List.getElem?_eq_none_iff.mp e
  exact List.getElem?_eq_none_iff.mpr (by omega)

def RelO : Option V → Option Value → Prop
  | some v, some u => RelV v u
  | none, none => True
  | _, _ => False
def KV {κ : Type} : List (κ × V) → List (κ × Value) → Prop := Paired fun (p : κ × V) (q : κ × Value) => p.1 = q.1 ∧ RelV p.2 q.2

/-- a key of a dict (00_mix): an int or a text -/
def kV : Key → V
  | .inl i => .int i
  | .inr x => .str x

/-- what stands at a tracked address -/
inductive HO where
  /-- a list -/
  | lst (xs : List V)
  /-- a tuple (never changes) -/
  | tup (xs : List V)
  /-- a dict whose keys are ints and texts; one whose keys are tuples of ints and texts (the empty one is both) -/
  | dK (kvs : List (Key × V)) | dT (kvs : List (List Key × V))
  /-- a set of ints: its members, its size -/
  | set (S : Int → Bool) (n : Nat)
  /-- an instance of the class at C, its dict at dx, its attributes -/
  | ins (C dx : Addr) (fs : List (Str × V))
  /-- the dict of the instance at x -/
  | own (x : Addr)
  /-- the dict of an exception -/
  | xd (fs : List (Str × V))
  /-- a bound method, f of x -/
  | met (f x : Addr)
  /-- a range object lo, lo + 1, .. below hi -/
  | rng (lo hi : Int)
  /-- a thing that is known to the object (the script; a dict while a loop walks it): read, never written while it is so -/
  | frz (o : Obj) (u : HO)
  /-- a code object's table -/
  | tbl (ps : Array Value)
  /-- any other thing, by what is true of its one object (a def of one's own: SetO a S n := HO.ext fun h => ..) -/
  | ext (φ : Heap → Prop)

abbrev Hp := Addr → Option HO
def upd (H : Hp) (a : Addr) (o : HO) : Hp := fun b => if b = a then some o else H b
theorem upd_same {H : Hp} {a : Addr} {o : HO} : upd H a o a = some o := by unfold upd; rw [if_pos rfl]
theorem upd_ne {H : Hp} {a b : Addr} {o : HO} (h : b ≠ a) : upd H a o b = H b := by unfold upd; rw [if_neg h]
theorem upd_upd {H : Hp} {a : Addr} {o u : HO} : upd (upd H a o) a u = upd H a u := by
  funext b; unfold upd; split <;> rfl
/-- two objects of different content stand apart -/
theorem ne_of {H : Hp} {a b : Addr} {o u : HO} (h : H a = some o) (h' : H b = some u) (d : o ≠ u) : a ≠ b := by
  intro e; subst e; rw [h] at h'; exact d (Option.some.inj h')
theorem ne_of_none {H : Hp} {a b : Addr} {o : HO} (h : H a = some o) (h' : H b = none) : a ≠ b := by
  intro e; subst e; rw [h] at h'; cases h'

section
variable (P : Program) (w : World)
def ObjOk (H : Hp) (h : Heap) (a : Addr) : HO → Prop
  | .lst xs => xs.length ≤ sizeLine ∧ ∃ (its : List Value) (n : Nat), Vals xs its ∧ h.get? a = some { cls := .type "list", data := .seq its.toArray n }
  | .tup xs => xs.length ≤ sizeLine ∧ ∃ its : List Value, Vals xs its ∧ IsTup h a its.toArray
  | .dK kvs => kvs.length ≤ sizeLine ∧ (a == sysModules) = false ∧ ∃ vs, KV kvs vs ∧ h.DictOf (mixKind P w) a vs
  | .dT kvs => kvs.length ≤ sizeLine ∧ (a == sysModules) = false ∧ ∃ xs : List (List Key × Addr × Value),
      Paired (fun (p : List Key × V) (q : List Key × Addr × Value) => p.1 = q.1 ∧ H q.2.1 = some (.tup (p.1.map kV)) ∧ RelV p.2 q.2.2) kvs xs ∧
      ∃ o es ep, h.get? a = some o ∧ o.ExactDict ∧ o.data = .dict es ep ∧ es.toList = xs.map (entryOfKey (tupleKind (mixKind P w))) ∧ (xs.map (·.1)).Nodup
  | .set S n => h.SetOf (intKind P w) a S n
  | .ins C dx fs => H dx = some (.own a) ∧ fs.length ≤ 1000 ∧ dx ≠ a ∧ h.get? a = some (PySem.W.instObj C dx) ∧
      ∃ mA, h.Ns1 dx mA ∧ (∀ f, RelO (fs.lookup f) (mA f)) ∧ PySem.Within mA (fs.map (·.1))
  | .own _ => ∃ o, h.get? a = some o
  | .xd fs => ∃ mA, h.Ns1 a mA ∧ ∀ f, RelO (fs.lookup f) (mA f)
  | .rng lo hi => ∃ t u v, h.get? a = some { cls := .type "range", data := .fields #[.int lo t, .int hi u, .int 1 v] }
  | .frz o u => h.get? a = some o ∧ ObjOk H h a u
  | .tbl ps => h.get? a = some { cls := .none, data := .fields ps }
  | .met f x => h.get? a = some (PySem.W.methodObj (.ref f) (.ref x))
  | .ext φ => φ h ∧ (∃ o, h.get? a = some o) ∧ ∀ h1 h2 : Heap, φ h1 → (∀ o, h1.get? a = some o → h2.get? a = some o) → φ h2
/-- the abstract heap is held -/
def HOk (H : Hp) (h : Heap) : Prop := ∀ a o, H a = some o → ObjOk P w H h a o
end

section
variable {P : Program} {w : World} {H H' : Hp} {h h' : Heap} {a : Addr} {o : HO}
theorem ObjOk.lt (x : ObjOk P w H h a o) : a < h.objs.size := by
  cases o with
  | lst xs => obtain ⟨_, _, _, _, e⟩ := x; exact Heap.lt_size e
  | tup xs => obtain ⟨_, _, _, p⟩ := x; exact p.lt
  | dK kvs => obtain ⟨_, _, _, _, o, _, _, e, _⟩ := x; exact Heap.lt_size e
  | dT kvs => obtain ⟨_, _, _, _, o, _, _, e, _⟩ := x; exact Heap.lt_size e
  | set S n => obtain ⟨o, _, _, _, e, _⟩ := x; exact Heap.lt_size e
  | ins C dx fs => obtain ⟨_, _, _, e, _⟩ := x; exact Heap.lt_size e
  | own y => obtain ⟨_, e⟩ := x; exact Heap.lt_size e
  | xd fs => obtain ⟨_, ⟨_, _, _, e, _⟩, _⟩ := x; exact Heap.lt_size e
  | rng lo hi => obtain ⟨_, _, _, e⟩ := x; exact Heap.lt_size e
  | frz ob u => obtain ⟨e, _⟩ := x; exact Heap.lt_size e
  | tbl ps => exact Heap.lt_size (show h.get? a = some _ from x)
  | met f y => exact Heap.lt_size (show h.get? a = some _ from x)
  | ext φ => obtain ⟨_, ⟨_, e⟩, _⟩ := x; exact Heap.lt_size e
theorem Paired.mapP {α β : Type} {F G : α → β → Prop} : ∀ {l₁ : List α} {l₂ : List β}, Paired F l₁ l₂ → (∀ a b, F a b → G a b) → Paired G l₁ l₂
  | _, _, .nil, _ => .nil
  | _, _, .cons r t, f => .cons (f _ _ r) (Paired.mapP t f)
theorem Paired.imp' {α β : Type} {F G : α → β → Prop} (f : ∀ a b, F a b → G a b) {l₁ : List α} {l₂ : List β} (r : Paired F l₁ l₂) : Paired G l₁ l₂ := Paired.mapP r f
/-- what an object's description leans on: its own object, its own dict, the tuples -/
theorem ObjOk.stay (x : ObjOk P w H h a o) (k : ∀ b u, (b = a ∨ H b = some (.own a)) → h.get? b = some u → h'.get? b = some u)
    (ho : ∀ b, H b = some (.own a) → H' b = some (.own a)) (ht : ∀ b xs, H b = some (.tup xs) → H' b = some (.tup xs)) : ObjOk P w H' h' a o := by
  induction o with
  | lst xs => obtain ⟨z, its, n, r, e⟩ := x; exact ⟨z, its, n, r, k _ _ (.inl rfl) e⟩
  | tup xs => obtain ⟨z, its, r, ob, e, c⟩ := x; exact ⟨z, its, r, ob, k _ _ (.inl rfl) e, c⟩
  | dK kvs => obtain ⟨z, y, vs, r, ob, es, ep, e, c⟩ := x; exact ⟨z, y, vs, r, ob, es, ep, k _ _ (.inl rfl) e, c⟩
  | dT kvs =>
    obtain ⟨z, y, xs, r, ob, es, ep, e, c⟩ := x
    exact ⟨z, y, xs, Paired.mapP r fun p q z => ⟨z.1, ht _ _ z.2.1, z.2.2⟩, ob, es, ep, k _ _ (.inl rfl) e, c⟩
  | set S n => obtain ⟨ob, es, ep, t, e, c⟩ := x; exact ⟨ob, es, ep, t, k _ _ (.inl rfl) e, c⟩
  | ins C dx fs =>
    obtain ⟨d, z, ne, e, mA, ⟨od, es, ep, e2, c⟩, r⟩ := x
    exact ⟨ho _ d, z, ne, k _ _ (.inl rfl) e, mA, ⟨od, es, ep, k _ _ (.inr d) e2, c⟩, r⟩
  | own y => obtain ⟨ob, e⟩ := x; exact ⟨ob, k _ _ (.inl rfl) e⟩
  | xd fs => obtain ⟨mA, ⟨od, es, ep, e, c⟩, r⟩ := x; exact ⟨mA, ⟨od, es, ep, k _ _ (.inl rfl) e, c⟩, r⟩
  | rng lo hi => obtain ⟨t, u, v, e⟩ := x; exact ⟨t, u, v, k _ _ (.inl rfl) e⟩
  | frz ob u ih => obtain ⟨e, q⟩ := x; exact ⟨k _ _ (.inl rfl) e, ih q⟩
  | tbl ps =>
    have e : h.get? a = some { cls := .none, data := .fields ps } := x
    show h'.get? a = some { cls := .none, data := .fields ps }
    exact k a _ (.inl rfl) e
  | met f y =>
    have e : h.get? a = some (PySem.W.methodObj (.ref f) (.ref y)) := x
    show h'.get? a = some (PySem.W.methodObj (.ref f) (.ref y))
    exact k a _ (.inl rfl) e
  | ext φ => obtain ⟨p, ⟨o, e⟩, st⟩ := x; exact ⟨st _ _ p fun o q => k _ _ (.inl rfl) q, ⟨o, k _ _ (.inl rfl) e⟩, st⟩
theorem HOk.lt (x : HOk P w H h) (e : H a = some o) : a < h.objs.size := (x a o e).lt
theorem HOk.fresh (x : HOk P w H h) (e : h.objs.size ≤ a) : H a = none := by
  cases q : H a with
  | none => rfl
  | some u => exact absurd (Nat.lt_of_lt_of_le (x.lt q) e) (Nat.lt_irrefl _)
/-- every object of the heap is kept -/
theorem HOk.kept (x : HOk P w H h) (k : ∀ b u, h.get? b = some u → h'.get? b = some u) : HOk P w H h' := fun a o e =>
  (x a o e).stay (fun b u _ q => k b u q) (fun _ q => q) fun _ _ q => q
/-- a new object is laid and tracked -/
theorem HOk.laid (x : HOk P w H h) (k : ∀ b u, h.get? b = some u → h'.get? b = some u) (hp : h.objs.size ≤ a) (new : ObjOk P w (upd H a o) h' a o) : HOk P w (upd H a o) h' := fun b u e => by
  have hn := x.fresh hp
  by_cases hb : b = a
  · subst hb; rw [upd_same] at e; cases e; exact new
  · rw [upd_ne hb] at e
    exact (x b u e).stay (fun c v _ q => k c v q) (fun c q => by rw [upd_ne (ne_of_none q hn)]; exact q) fun c xs q => by rw [upd_ne (ne_of_none q hn)]; exact q
end

/-- what may be read as u: it is u, or a known u -/
def Rd (H : Hp) (a : Addr) (u : HO) : Prop := H a = some u ∨ ∃ o, H a = some (.frz o u)
theorem Rd.of {H : Hp} {a : Addr} {u : HO} (h : H a = some u) : Rd H a u := .inl h
theorem Rd.ok {P : Program} {w : World} {H : Hp} {h : Heap} {a : Addr} {u : HO} (r : Rd H a u) (x : HOk P w H h) : ObjOk P w H h a u := by
  rcases r with r | ⟨o, r⟩
  · exact x a u r
  · obtain ⟨_, q⟩ := x a _ r
    exact q
/-- what may be written -/
def Mut : Option HO → Prop
  | some (.lst _) => True
  | some (.dK _) => True
  | some (.dT _) => True
  | some (.set _ _) => True
  | some (.ins _ _ _) => True
  | some (.ext _) => True
  | _ => False
section
variable {P : Program} {w : World} {H : Hp} {h h' : Heap} {x e : Addr} {o' : HO}
/-- the object at e is changed: x itself, or the dict of the instance x -/
theorem HOk.write (ok : HOk P w H h) (mu : Mut (H x)) (he : e = x ∨ H e = some (.own x)) (k : ∀ b u, b ≠ e → h.get? b = some u → h'.get? b = some u) (heo : ∃ u, h'.get? e = some u)
    (new : ObjOk P w (upd H x o') h' x o') : HOk P w (upd H x o') h' := fun b u q => by
  have nown : ∀ c y, H c = some (.own y) → c ≠ x := fun c y r z => by subst z; rw [r] at mu; exact mu
  have ntup : ∀ c xs, H c = some (.tup xs) → c ≠ x := fun c xs r z => by subst z; rw [r] at mu; exact mu
  by_cases hb : b = x
  · subst hb; rw [upd_same] at q; cases q; exact new
  · rw [upd_ne hb] at q
    by_cases hbe : b = e
    · have q' : H b = some (.own x) := by
        rcases he with z | z
        · exact absurd (hbe.trans z) hb
        · rw [hbe]; exact z
      rw [q] at q'; cases q'
      obtain ⟨v, hv⟩ := heo
      exact ⟨v, by rw [hbe]; exact hv⟩
    · refine (ok b u q).stay (fun c v hc r => k c v ?_ r) (fun c r => by rw [upd_ne (nown c b r)]; exact r) fun c xs r => by rw [upd_ne (ntup c xs r)]; exact r
      rcases hc with rfl | hc
      · exact hbe
      · rintro rfl
        rcases he with z | z
        · exact nown c b hc z
        · rw [hc] at z; cases z; exact hb rfl
end

/-! ### kept unless tracked; of the frames at fs (the callers') the slots may change (an exception that passes writes there); of the records at ex (iterators) nothing is said -/
structure Un (fs ex : List Addr) (H H' : Hp) (h h' : Heap) : Prop where
  keep : ∀ b o, h.get? b = some o → H b = none → b ∉ fs → b ∉ ex → h'.get? b = some o
  slot : ∀ b o, h.get? b = some o → H b = none → b ∈ fs → b ∉ ex → ∃ sl, h'.get? b = some { o with slots := sl }
  free : ∀ b o, h.get? b = some o → H b = none → b ∉ ex → H' b = none
  there : ∀ b o, h.get? b = some o → b ∉ ex → ∃ o', h'.get? b = some o'
  tups : ∀ b xs, H b = some (.tup xs) → H' b = some (.tup xs)
  frzs : ∀ b o u, H b = some (.frz o u) → H' b = some (.frz o u)
  tbls : ∀ b ps, H b = some (.tbl ps) → ∃ more, H' b = some (.tbl (ps ++ more))
section
variable {fs fs' ex ex' : List Addr} {H H1 H2 : Hp} {h h1 h2 h' : Heap} {a x e : Addr} {o : HO}
theorem Un.any (u : Un fs ex H H1 h h1) {b : Addr} {ob : Obj} (q : h.get? b = some ob) (n : H b = none) (hx : b ∉ ex) : ∃ sl, h1.get? b = some { ob with slots := sl } := by
  by_cases hb : b ∈ fs
  · exact u.slot b ob q n hb hx
  · exact ⟨ob.slots, u.keep b ob q n hb hx⟩
theorem Un.trans (a : Un fs ex H H1 h h1) (b : Un fs ex H1 H2 h1 h2) : Un fs ex H H2 h h2 where
  keep := fun c ob q n hc hx => b.keep c ob (a.keep c ob q n hc hx) (a.free c ob q n hx) hc hx
  slot := fun c ob q n hc hx => by
    obtain ⟨sl, e1⟩ := a.slot c ob q n hc hx
    obtain ⟨sl', e2⟩ := b.slot c _ e1 (a.free c ob q n hx) hc hx
    exact ⟨sl', e2⟩
  free := fun c ob q n hx => by
    obtain ⟨o', e1⟩ := a.there c ob q hx
    exact b.free c o' e1 (a.free c ob q n hx) hx
  there := fun c ob q hx => by
    obtain ⟨o', e1⟩ := a.there c ob q hx
    exact b.there c o' e1 hx
  tups := fun c xs q => b.tups c xs (a.tups c xs q)
  frzs := fun c ob xs q => b.frzs c ob xs (a.frzs c ob xs q)
  tbls := fun c ps q => by
    obtain ⟨m1, e1⟩ := a.tbls c ps q
    obtain ⟨m2, e2⟩ := b.tbls c _ e1
    exact ⟨m1 ++ m2, by rw [e2, Array.append_assoc]⟩
theorem Un.kept (k : ∀ b u, h.get? b = some u → h'.get? b = some u) : Un fs ex H H h h' :=
  ⟨fun b ob q _ _ _ => k b ob q, fun b ob q _ _ _ => ⟨ob.slots, k b ob q⟩, fun _ _ _ n _ => n, fun b ob q _ => ⟨ob, k b ob q⟩, fun _ _ q => q, fun _ _ _ q => q, fun _ ps q => ⟨#[], by rw [q]; simp⟩⟩
theorem Un.refl : Un fs ex H H h h := Un.kept fun _ _ q => q
theorem Un.laid (k : ∀ b u, h.get? b = some u → h'.get? b = some u) (hp : h.objs.size ≤ a) (hn : H a = none) : Un fs ex H (upd H a o) h h' where
  keep := fun b u q _ _ _ => k b u q
  slot := fun b u q _ _ _ => ⟨u.slots, k b u q⟩
  free := fun b u q n _ => by rw [upd_ne (Nat.ne_of_lt (Nat.lt_of_lt_of_le (Heap.lt_size q) hp))]; exact n
  there := fun b u q _ => ⟨u, k b u q⟩
  tups := fun b xs q => by rw [upd_ne (ne_of_none q hn)]; exact q
  frzs := fun b u xs q => by rw [upd_ne (ne_of_none q hn)]; exact q
  tbls := fun b ps q => ⟨#[], by rw [upd_ne (ne_of_none q hn), q]; simp⟩
theorem Un.write (mu : Mut (H x)) (he : e = x ∨ H e = some (.own x)) (k : ∀ b u, b ≠ e → h.get? b = some u → h'.get? b = some u) (heo : ∃ u, h'.get? e = some u) : Un fs ex H (upd H x o) h h' := by
  have hx : ∀ b, H b = none → b ≠ x := fun b n z => by subst z; rw [n] at mu; exact mu
  have hb : ∀ b, H b = none → b ≠ e := fun b n z => by
    subst z
    rcases he with r | r
    · exact hx b n r
    · rw [n] at r; cases r
  have hm : ∀ b u, H b = some u → ¬ Mut (some u) → b ≠ x := fun b u q nm z => by subst z; rw [q] at mu; exact nm mu
  refine ⟨fun b u q n _ _ => k b u (hb b n) q, fun b u q n _ _ => ⟨u.slots, k b u (hb b n) q⟩, fun b u q n _ => by rw [upd_ne (hx b n)]; exact n, fun b u q _ => ?_,
    fun b xs q => by rw [upd_ne (hm b _ q fun z => z)]; exact q, fun b u xs q => by rw [upd_ne (hm b _ q fun z => z)]; exact q, fun b ps q => ⟨#[], by rw [upd_ne (hm b _ q fun z => z), q]; simp⟩⟩
  by_cases hbe : b = e
  · subst hbe; exact heo
  · exact ⟨u, k b u hbe q⟩
theorem Un.mono (u : Un fs ex H H1 h h1) (hs : ∀ b ∈ fs, b ∈ fs') (hx : ∀ b ∈ ex, b ∈ ex') : Un fs' ex' H H1 h h1 :=
  ⟨fun b ob q n hb he => u.keep b ob q n (fun z => hb (hs b z)) fun z => he (hx b z), fun _ _ q n _ he => u.any q n fun z => he (hx _ z), fun b ob q n he => u.free b ob q n fun z => he (hx b z), fun b ob q he => u.there b ob q fun z => he (hx b z), u.tups, u.frzs, u.tbls⟩
end

/-! ### the heap without what is tracked -/
def trk (h : Heap) (H : Hp) : List Addr := (List.range h.objs.size).filter fun a => (H a).isSome
def hidT (h : Heap) (H : Hp) : Heap := PySem.W.hideAll h (trk h H)
theorem hidT_size (h : Heap) (H : Hp) : (hidT h H).objs.size = h.objs.size := PySem.W.hideAll_size _ _
theorem hidT_get {h : Heap} {H : Hp} {b : Addr} {o : Obj} (e : h.get? b = some o) (n : H b = none) : (hidT h H).get? b = some o :=
  PySem.W.hideAll_get _ e fun hm => by
    have q : (H b).isSome = true := (List.mem_filter.mp hm).2
    rw [n] at q; simp at q
theorem of_hidT {h : Heap} {H : Hp} {b : Addr} {o : Obj} (e : (hidT h H).get? b = some o) : h.get? b = some o ∧ H b = none := by
  have e' : h.get? b = some o := PySem.W.of_hideAll (trk h H) e
  refine ⟨e', ?_⟩
  cases q : H b with
  | none => rfl
  | some x =>
    have hm : b ∈ trk h H := List.mem_filter.mpr ⟨List.mem_range.mpr (Heap.lt_size e'), by simp [q]⟩
    have z : (hidT h H).get? b = none := PySem.W.hideAll_none (trk h H) hm
    rw [z] at e; cases e

/-! ### OpenK's ledger, filled with every new object but one -/
def allNews (g h : Heap) (L : Addr) : List (Addr × Obj) := (List.range h.objs.size).filterMap fun a => if a = L ∨ (g.get? a).isSome = true then none else (h.get? a).map fun o => (a, o)
theorem mem_allNews {g h : Heap} {L a : Addr} {o : Obj} (h1 : a ≠ L) (h2 : g.get? a = none) (h3 : h.get? a = some o) : (a, o) ∈ allNews g h L :=
  List.mem_filterMap.mpr ⟨a, List.mem_range.mpr (Heap.lt_size h3), by simp [h1, h2, h3]⟩
theorem of_mem_allNews {g h : Heap} {L : Addr} {p : Addr × Obj} (hp : p ∈ allNews g h L) : p.1 ≠ L ∧ g.get? p.1 = none ∧ h.get? p.1 = some p.2 := by
  obtain ⟨b, _, e⟩ := List.mem_filterMap.mp hp
  split at e
  · cases e
  · rename_i hn
    cases q : h.get? b with
    | none => rw [q] at e; simp at e
    | some u =>
      rw [q] at e
      simp only [Option.map_some, Option.some.injEq] at e
      subst e
      refine ⟨fun z => hn (.inl z), ?_, q⟩
      show g.get? b = none
      cases r : g.get? b with
      | none => rfl
      | some v => exact (hn (.inr (by simp [r]))).elim
def rest (g h : Heap) (L d : Addr) : List (Addr × Obj) := (allNews g h L).filter fun p => decide (p.1 ≠ d)
theorem rest_ne {g h : Heap} {L d : Addr} : ∀ p ∈ rest g h L d, p.1 ≠ d := fun p hp => of_decide_eq_true (List.mem_filter.mp hp).2
theorem mem_rest {g h : Heap} {L d a : Addr} {o : Obj} (h1 : a ≠ L) (h2 : g.get? a = none) (h3 : h.get? a = some o) (h4 : a ≠ d) : (a, o) ∈ rest g h L d :=
  List.mem_filter.mpr ⟨mem_allNews h1 h2 h3, decide_eq_true h4⟩
theorem news_all {g h : Heap} {L : Addr} : News g L h (allNews g h L) := fun p hp => let ⟨a, b, c⟩ := of_mem_allNews hp; ⟨c, a, b⟩
theorem news_at {g h : Heap} {L d : Addr} {o : Obj} (h1 : d ≠ L) (h2 : g.get? d = none) (h3 : h.get? d = some o) : News g L h ((d, o) :: rest g h L d) := fun p hp => by
  rcases List.mem_cons.mp hp with rfl | hp
  · exact ⟨h3, h1, h2⟩
  · exact news_all p (List.mem_filter.mp hp).1
/-- behind a rule that changed d alone: all else but the frame is kept -/
theorem kept_of_news {g h h' : Heap} {L d : Addr} {m : Str → Option Value} (k : ∀ b o, g.get? b = some o → h.get? b = some o) (F : Fr g L h' m) (N : News g L h' (rest g h L d)) :
    ∀ b o, b ≠ L → b ≠ d → h.get? b = some o → h'.get? b = some o := fun b o h1 h2 e => by
  cases q : g.get? b with
  | some u =>
    have := k b u q
    rw [e] at this; cases this
    exact F.keep b _ q
  | none => exact (N (b, o) (mem_rest h1 q e h2)).1
end L2

namespace L2
open PySem PySem.Spec PyProof.Rows

/-- the module's facts, over the base: the heap at the law's entry without what is tracked there -/
structure Mod (K : PySem.W.Frag) (mg : Str → Option Value) (base : Heap) : Prop where
  kin : K.In base
  glob : base.Ns mainGlobals mg
  blt : ∃ mb, base.Ns builtinsNs mb ∧ ∀ x : Str, x ≠ "__name__" → mb x = bootBuiltins x
  nolimit : base.NoLimit

/-- the context: a def's body (or a comprehension's block) running. base: fixed through the whole law; s₀, H₀: the entry; outer: the frames whose slots others may change (a def's callers); stack: all frames that run;
   ex: iterators that were made ahead of the entry and are walked here (a comprehension's); fn: the names whose cells were made at the entry (a def: all; a comprehension's block: its own); calm: not within an except suite; pn: pins that every state bears; xe: what is wanted of an exception that leaves the code -/
structure Cx where
  prog : Program
  w : World
  K : PySem.W.Frag
  mg : Str → Option Value
  base : Heap
  A : Around
  N : List Str
  s₀ : Shared
  H₀ : Hp
  env : Env
  outer : List Env
  stack : List Env
  ex : List Addr
  fn : Str → Bool
  calm : Bool
  pn : List (Addr × Obj)
  xe : Value → Shared → Prop
/-- the callers' frames -/
def frs (l : List Env) : List Addr := l.filterMap (·.frame)
abbrev Cx.fs (X : Cx) : List Addr := frs X.outer

def Vis (sc : Scope) (x : Str) : Prop := sc.names.lookup x = some .local ∨ sc.names.lookup x = some .cell ∨ sc.names.lookup x = some .free
def Loc (sc : Scope) (x : Str) : Prop := sc.names.lookup x = some .local ∨ sc.names.lookup x = some .cell
def Look (env : Env) (h : Heap) (m : Str → Option Value) (x : Str) (u : Value) : Prop :=
  (env.kindOf x = some .local ∧ m x = some u) ∨ ((env.kindOf x = some .cell ∨ env.kindOf x = some .free) ∧ ∃ c, env.cells.lookup x = some c ∧ h.IsCell c (some u))

structure Cx.Ok (X : Cx) : Prop where
  mod : Mod X.K X.mg X.base
  kind : X.env.scope.kind = .function
  glob : X.env.globals = mainGlobals
  blt : X.env.builtins = builtinsNs
  above : X.s₀.heap.objs.size ≤ X.env.locals
  inj : ∀ x y c, X.env.cells.lookup x = some c → X.env.cells.lookup y = some c → x = y
  has : ∀ x, (X.env.kindOf x = some .cell ∨ X.env.kindOf x = some .free) → ∃ c, X.env.cells.lookup x = some c
  cab : ∀ x c, X.fn x = true → X.env.cells.lookup x = some c → X.s₀.heap.objs.size ≤ c
  hd : X.calm = true → X.A.handled = none
  frames : X.A.frames = some X.stack
  stk : X.stack = X.outer ∨ (X.stack = X.env :: X.outer ∧ X.env.frame = some X.env.locals)
  exf : ∀ b ∈ X.ex, b ≠ X.env.locals ∧ ∀ x c, X.env.cells.lookup x = some c → c ≠ b
  bs : ∀ b o, X.base.get? b = some o → X.s₀.heap.get? b = some o ∧ X.H₀ b = none
  bsz : X.base.objs.size ≤ X.s₀.heap.objs.size
  noex : ∀ b o, X.base.get? b = some o → b ∉ X.ex
  exfs : ∀ b ∈ X.ex, b ∉ X.fs
  funs : X.s₀.heap.FunFrames X.base X.outer
  frf : ∀ b ∈ X.fs, X.H₀ b = none

structure Inv (X : Cx) (pins : List (Addr × Obj)) (σ : List (Option V)) (H : Hp) (s : Shared) : Prop where
  ok : X.Ok
  os : s.os = X.s₀.os
  bare : AllBare s.gens
  base : Un X.fs X.ex X.H₀ H X.s₀.heap s.heap
  loc : ∃ m, s.heap.Ns X.env.locals m ∧ ∀ (i : Nat) (x : Str) (v : V), X.N[i]? = some x → σ[i]? = some (some v) → Vis X.env.scope x → ∃ u, RelV v u ∧ Look X.env s.heap m x u
  cell : ∀ x c, X.env.cells.lookup x = some c → ∃ v, s.heap.IsCell c v
  free : H X.env.locals = none
  freeC : ∀ x c, X.env.cells.lookup x = some c → H c = none
  pin : ∀ p ∈ X.pn ++ pins, s.heap.get? p.1 = some p.2 ∧ H p.1 = none ∧ p.1 ≠ X.env.locals ∧ p.1 ∉ X.fs ∧ ∀ v, p.2.data ≠ .cell v
  hok : HOk X.prog X.w H s.heap
  len : σ.length = X.N.length

section
variable {X : Cx} {pins : List (Addr × Obj)} {σ : List (Option V)} {H H' : Hp} {s : Shared} {h' : Heap}

theorem Cx.Ok.nofr (ok : X.Ok) {b : Addr} {o : Obj} (e : X.base.get? b = some o) : b ∉ X.fs := fun hb => by
  have := (ok.funs.mem hb).1
  rw [e] at this; cases this
theorem Inv.bs (I : Inv X pins σ H s) : ∀ b o, X.base.get? b = some o → s.heap.get? b = some o ∧ H b = none := fun b o e =>
  ⟨I.base.keep b o (I.ok.bs b o e).1 (I.ok.bs b o e).2 (I.ok.nofr e) (I.ok.noex b o e), I.base.free b o (I.ok.bs b o e).1 (I.ok.bs b o e).2 (I.ok.noex b o e)⟩
theorem Inv.bk (I : Inv X pins σ H s) : ∀ b o, X.base.get? b = some o → s.heap.get? b = some o := fun b o e => (I.bs b o e).1
theorem Inv.mod (I : Inv X pins σ H s) : Mod X.K X.mg X.base := I.ok.mod
theorem Inv.kIn (I : Inv X pins σ H s) : X.K.In s.heap := I.ok.mod.kin.keeps I.bk
theorem Inv.nolimit (I : Inv X pins σ H s) : s.heap.NoLimit := I.ok.mod.nolimit.keeps I.bk
/-- the frame over the base: for OpenK's rules (K.In X.base is I.mod.kin) -/
theorem Inv.fr (I : Inv X pins σ H s) : ∃ m, Fr X.base X.env.locals s.heap m :=
  let ⟨m, hn, _⟩ := I.loc
  ⟨m, hn, I.bk, Nat.le_trans I.ok.bsz I.ok.above⟩
theorem Inv.lt (I : Inv X pins σ H s) : X.env.locals < s.heap.objs.size := let ⟨_, hn, _⟩ := I.loc; hn.lt
theorem Inv.sz (I : Inv X pins σ H s) : X.s₀.heap.objs.size ≤ s.heap.objs.size := Nat.le_trans I.ok.above (Nat.le_of_lt I.lt)
theorem Inv.nofs (I : Inv X pins σ H s) {a : Addr} (h : s.heap.objs.size ≤ a) : a ∉ X.fs := fun hb => by
  obtain ⟨_, o, ho, _⟩ := I.ok.funs.mem hb
  exact absurd (Nat.lt_of_lt_of_le (Heap.lt_size ho) (Nat.le_trans I.sz h)) (Nat.lt_irrefl _)
theorem Inv.cne (I : Inv X pins σ H s) : ∀ x c, X.env.cells.lookup x = some c → c ≠ X.env.locals := fun x c e z => by
  obtain ⟨v, o, ho, hd⟩ := I.cell x c e
  obtain ⟨m, ⟨o', es, ep, ho', hd', _⟩, _⟩ := I.loc
  rw [z, ho'] at ho; cases ho; rw [hd'] at hd; cases hd
theorem Inv.funs (I : Inv X pins σ H s) : s.heap.FunFrames X.base X.outer := by
  have all : ∀ (l : List Env), (∀ b ∈ frs l, b ∈ X.fs) → X.s₀.heap.FunFrames X.base l → s.heap.FunFrames X.base l := by
    intro l
    induction l with
    | nil => intro _ _; trivial
    | cons env r ih =>
      intro hs hl
      obtain ⟨hk, ⟨L, o, hf, hn, ho, hd⟩, hr⟩ := hl
      have hL : L ∈ X.fs := hs L (by unfold frs; rw [List.filterMap_cons, hf]; exact List.mem_cons_self)
      obtain ⟨sl, e⟩ := I.base.slot L o ho (I.ok.frf L hL) hL fun z => I.ok.exfs L z hL
      exact ⟨hk, ⟨L, _, hf, hn, e, hd⟩, ih (fun b hb => hs b (by unfold frs; rw [List.filterMap_cons, hf]; exact List.mem_cons_of_mem _ hb)) hr⟩
  exact all X.outer (fun _ hb => hb) I.ok.funs

/-- the frames that run, for a call -/
theorem Inv.stack (I : Inv X pins σ H s) : s.heap.FunFrames X.base X.stack := by
  rcases I.ok.stk with e | ⟨e, hf⟩
  · rw [e]; exact I.funs
  · rw [e]
    obtain ⟨m, hn, _⟩ := I.loc
    refine .cons (by rw [I.ok.kind]; decide) hf hn ?_ I.funs
    exact Heap.get?_none_of_le (Nat.le_trans I.ok.bsz I.ok.above)
theorem Inv.stkSub (I : Inv X pins σ H s) : ∀ b ∈ frs X.stack, b ∈ X.env.locals :: X.fs := fun b hb => by
  rcases I.ok.stk with e | ⟨e, hf⟩
  · rw [e] at hb; exact List.mem_cons_of_mem _ hb
  · rw [e] at hb
    unfold frs at hb
    rw [List.filterMap_cons, hf] at hb
    exact hb
theorem Inv.stkFree (I : Inv X pins σ H s) : ∀ b ∈ frs X.stack, H b = none := fun b hb => by
  rcases List.mem_cons.mp (I.stkSub b hb) with e | hb
  · rw [e]; exact I.free
  · obtain ⟨_, o, ho, _⟩ := I.ok.funs.mem hb
    exact I.base.free b o ho (I.ok.frf b hb) fun z => I.ok.exfs b z hb

/-- THE STEP: the untracked objects but the frame and the records at ch are kept (the callers' frames up to slots), the frame's map is kept, the new abstract heap is held -/
theorem Inv.step {g' : Array GenState} {t' : Nat} {d' : Drawn} {ch : List Addr} (I : Inv X pins σ H s)
    (hch : ∀ b ∈ ch, (b ∈ X.ex ∨ X.s₀.heap.objs.size ≤ b) ∧ b ≠ X.env.locals ∧ (∀ x c, X.env.cells.lookup x = some c → c ≠ b) ∧ ∀ p ∈ X.pn ++ pins, p.1 ≠ b)
    (keep : ∀ b o, b ≠ X.env.locals → b ∉ X.fs → b ∉ ch → s.heap.get? b = some o → H b = none → h'.get? b = some o)
    (slot : ∀ b o, b ≠ X.env.locals → b ∈ X.fs → b ∉ ch → s.heap.get? b = some o → H b = none → ∃ sl, h'.get? b = some { o with slots := sl }) (free : ∀ b o, b ∉ ch → s.heap.get? b = some o → H b = none → H' b = none)
    (there : ∀ b o, b ∉ ch → s.heap.get? b = some o → ∃ o', h'.get? b = some o')
    (tups : ∀ b xs, H b = some (.tup xs) → H' b = some (.tup xs)) (frzs : ∀ b o u, H b = some (.frz o u) → H' b = some (.frz o u)) (tbls : ∀ b ps, H b = some (.tbl ps) → ∃ more, H' b = some (.tbl (ps ++ more)))
    (ns : ∀ m, s.heap.Ns X.env.locals m → h'.Ns X.env.locals m) (hok : HOk X.prog X.w H' h') (hg : AllBare g') :
    Inv X pins σ H' { s with heap := h', gens := g', drawn := d', toks := t' } := by
  have neL : ∀ b o, X.s₀.heap.get? b = some o → b ≠ X.env.locals := fun b o e => Nat.ne_of_lt (Nat.lt_of_lt_of_le (Heap.lt_size e) I.ok.above)
  have neC : ∀ b o, X.s₀.heap.get? b = some o → b ∉ X.ex → b ∉ ch := fun b o e hx hb => by
    rcases (hch b hb).1 with z | z
    · exact hx z
    · exact absurd (Nat.lt_of_lt_of_le (Heap.lt_size e) z) (Nat.lt_irrefl _)
  have cellK : ∀ x c, X.env.cells.lookup x = some c → ∀ v, s.heap.IsCell c v → h'.IsCell c v := fun x c e v ⟨o, ho, hd⟩ => by
    have nch : c ∉ ch := fun z => (hch c z).2.2.1 x c e rfl
    by_cases hc : c ∈ X.fs
    · obtain ⟨sl, q⟩ := slot c o (I.cne x c e) hc nch ho (I.freeC x c e)
      exact ⟨_, q, hd⟩
    · exact ⟨o, keep c o (I.cne x c e) hc nch ho (I.freeC x c e), hd⟩
  refine ⟨I.ok, I.os, hg, ⟨fun b o e n hb hx => ?_, fun b o e n hb hx => ?_, fun b o e n hx => ?_, fun b o e hx => ?_, fun b xs e => tups b xs (I.base.tups b xs e), fun b o xs e => frzs b o xs (I.base.frzs b o xs e), fun b ps e => ?_⟩, ?_, fun x c e => ?_, ?_, fun x c e => ?_, fun p hp => ?_, hok, I.len⟩
  · exact keep b o (neL b o e) hb (neC b o e hx) (I.base.keep b o e n hb hx) (I.base.free b o e n hx)
  · obtain ⟨sl, e1⟩ := I.base.slot b o e n hb hx
    obtain ⟨sl', e2⟩ := slot b _ (neL b o e) hb (neC b o e hx) e1 (I.base.free b o e n hx)
    exact ⟨sl', e2⟩
  · obtain ⟨o', e1⟩ := I.base.there b o e hx
    exact free b o' (neC b o e hx) e1 (I.base.free b o e n hx)
  · obtain ⟨o', e1⟩ := I.base.there b o e hx
    exact there b o' (neC b o e hx) e1
  · obtain ⟨m1, e1⟩ := I.base.tbls b ps e
    obtain ⟨m2, e2⟩ := tbls b _ e1
    exact ⟨m1 ++ m2, by rw [e2, Array.append_assoc]⟩
  · obtain ⟨m, hn, hl⟩ := I.loc
    refine ⟨m, ns m hn, fun i x v e1 e2 e3 => ?_⟩
    obtain ⟨u, r, l⟩ := hl i x v e1 e2 e3
    refine ⟨u, r, ?_⟩
    rcases l with l | ⟨k, c, e, z⟩
    · exact .inl l
    · exact .inr ⟨k, c, e, cellK x c e _ z⟩
  · obtain ⟨v, z⟩ := I.cell x c e
    exact ⟨v, cellK x c e v z⟩
  · obtain ⟨m, ⟨o, _, _, ho, _⟩, _⟩ := I.loc
    exact free _ o (fun z => (hch _ z).2.1 rfl) ho I.free
  · obtain ⟨v, o, ho, hd⟩ := I.cell x c e
    exact free c o (fun z => (hch c z).2.2.1 x c e rfl) ho (I.freeC x c e)
  · obtain ⟨e, n, ne, nf, d⟩ := I.pin p hp
    have nch : p.1 ∉ ch := fun z => (hch p.1 z).2.2.2 p hp rfl
    exact ⟨keep p.1 p.2 ne nf nch e n, free p.1 p.2 nch e n, ne, nf, d⟩
/-- .. where the frame's own object is kept too -/
theorem Inv.un {t' : Nat} (I : Inv X pins σ H s) (u : Un X.fs [] H H' s.heap h') (hok : HOk X.prog X.w H' h') : Inv X pins σ H' { s with heap := h', toks := t' } := by
  obtain ⟨m, ⟨o, es, ep, ho, r⟩, _⟩ := id I.loc
  obtain ⟨sl, hL⟩ := u.any ho I.free (by simp)
  exact I.step (g' := s.gens) (d' := s.drawn) (ch := []) (fun _ z => nomatch z) (fun b o _ hb _ e n => u.keep b o e n hb (by simp)) (fun b o _ hb _ e n => u.slot b o e n hb (by simp)) (fun b o _ e n => u.free b o e n (by simp)) (fun b o _ e => u.there b o e (by simp)) u.tups u.frzs u.tbls (fun m' hm => by
    obtain ⟨o', es', ep', ho', r'⟩ := hm
    rw [ho] at ho'; cases ho'
    exact ⟨_, es', ep', hL, r'⟩) hok I.bare
/-- behind a call (or a comprehension's block): the slots of this frame may have changed too, the records at ch may have turned -/
theorem Inv.call {g' : Array GenState} {t' : Nat} {d' : Drawn} {ch : List Addr} (I : Inv X pins σ H s) (u : Un (frs X.stack) ch H H' s.heap h') (hok : HOk X.prog X.w H' h') (hg : AllBare g')
    (hch : ∀ b ∈ ch, (b ∈ X.ex ∨ X.s₀.heap.objs.size ≤ b) ∧ b ≠ X.env.locals ∧ (∀ x c, X.env.cells.lookup x = some c → c ≠ b) ∧ ∀ p ∈ X.pn ++ pins, p.1 ≠ b) :
    Inv X pins σ H' { s with heap := h', gens := g', drawn := d', toks := t' } := by
  obtain ⟨m, ⟨o, es, ep, ho, r⟩, _⟩ := id I.loc
  obtain ⟨sl, hL⟩ := u.any ho I.free fun z => (hch _ z).2.1 rfl
  exact I.step (ch := ch) hch (fun b o hL hb hc e n => u.keep b o e n (fun z => (List.mem_cons.mp (I.stkSub b z)).elim hL hb) hc) (fun b o _ _ hc e n => u.any e n hc) (fun b o hc e n => u.free b o e n hc) (fun b o hc e => u.there b o e hc) u.tups u.frzs u.tbls (fun m' hm => by
    obtain ⟨o', es', ep', ho', r'⟩ := hm
    rw [ho] at ho'; cases ho'
    exact ⟨_, es', ep', hL, r'⟩) hok hg
/-- an untracked record of ours (an iterator) has turned -/
theorem Inv.turned {t' : Nat} {it : Addr} (I : Inv X pins σ H s) (k : ∀ b o, b ≠ it → s.heap.get? b = some o → h'.get? b = some o) (hn : H it = none) (hL : it ≠ X.env.locals)
    (h1 : it ∈ X.ex ∨ X.s₀.heap.objs.size ≤ it) (h2 : ∀ x c, X.env.cells.lookup x = some c → c ≠ it) (h3 : ∀ p ∈ X.pn ++ pins, p.1 ≠ it) : Inv X pins σ H { s with heap := h', toks := t' } := by
  have nit : ∀ b u, H b = some u → b ≠ it := fun b u e z => by rw [z, hn] at e; cases e
  refine I.step (g' := s.gens) (d' := s.drawn) (ch := [it]) (fun b hb => ?_) (fun b o _ _ hc e _ => k b o (fun z => hc (by simp [z])) e) (fun b o _ _ hc e _ => ⟨o.slots, k b o (fun z => hc (by simp [z])) e⟩) (fun _ _ _ _ n => n)
    (fun b o hc e => ⟨o, k b o (fun z => hc (by simp [z])) e⟩) (fun _ _ e => e) (fun _ _ _ e => e) (fun b ps e => ⟨#[], by rw [e]; simp⟩) (fun m hm => ?_) (fun b u e => ?_) I.bare
  · have e : b = it := by simpa using hb
    subst e
    exact ⟨h1, hL, h2, h3⟩
  · obtain ⟨o, es, ep, ho, r⟩ := hm
    exact ⟨o, es, ep, k _ o (Ne.symm hL) ho, r⟩
  · refine (I.hok b u e).stay (fun c v hc q => k c v ?_ q) (fun _ q => q) fun _ _ q => q
    rcases hc with z | z
    · rw [z]; exact nit b u e
    · exact nit c _ z
theorem Inv.tok (I : Inv X pins σ H s) (t : Nat) : Inv X pins σ H { s with toks := t } := I.un (h' := s.heap) (t' := t) Un.refl I.hok
/-- all objects kept -/
theorem Inv.kept {t' : Nat} (I : Inv X pins σ H s) (k : ∀ b u, s.heap.get? b = some u → h'.get? b = some u) : Inv X pins σ H { s with heap := h', toks := t' } := I.un (Un.kept k) (I.hok.kept k)
/-- a new object laid and tracked -/
theorem Inv.laid {a : Addr} {o : HO} {t' : Nat} (I : Inv X pins σ H s) (k : ∀ b u, s.heap.get? b = some u → h'.get? b = some u) (hp : s.heap.objs.size ≤ a) (new : ObjOk X.prog X.w (upd H a o) h' a o) :
    Inv X pins σ (upd H a o) { s with heap := h', toks := t' } := I.un (Un.laid k hp (I.hok.fresh hp)) (I.hok.laid k hp new)
/-- an object written -/
theorem Inv.write {x e : Addr} {o : HO} {t' : Nat} (I : Inv X pins σ H s) (mu : Mut (H x)) (he : e = x ∨ H e = some (.own x)) (k : ∀ b u, b ≠ e → s.heap.get? b = some u → h'.get? b = some u) (heo : ∃ u, h'.get? e = some u)
    (new : ObjOk X.prog X.w (upd H x o) h' x o) : Inv X pins σ (upd H x o) { s with heap := h', toks := t' } := I.un (Un.write mu he k heo) (I.hok.write mu he k heo new)
/-- forgetting slots, pins -/
theorem Inv.weak {σ' : List (Option V)} (I : Inv X pins σ H s) (hl : σ'.length = σ.length) (w : ∀ (i : Nat) v, σ'[i]? = some (some v) → σ[i]? = some (some v)) : Inv X pins σ' H s :=
  ⟨I.ok, I.os, I.bare, I.base, let ⟨m, hn, hl'⟩ := I.loc; ⟨m, hn, fun i x v e1 e2 e3 => hl' i x v e1 (w i v e2) e3⟩, I.cell, I.free, I.freeC, I.pin, I.hok, hl.trans I.len⟩
theorem Inv.pins_of {pins' : List (Addr × Obj)} (I : Inv X pins σ H s) (h : ∀ p ∈ pins', s.heap.get? p.1 = some p.2 ∧ H p.1 = none ∧ p.1 ≠ X.env.locals ∧ p.1 ∉ X.fs ∧ ∀ v, p.2.data ≠ .cell v) : Inv X pins' σ H s :=
  ⟨I.ok, I.os, I.bare, I.base, I.loc, I.cell, I.free, I.freeC, fun p hp => (List.mem_append.mp hp).elim (fun z => I.pin p (List.mem_append_left _ z)) (h p), I.hok, I.len⟩

theorem nodup_ix {N : List Str} (hN : N.Nodup) {i j : Nat} {x : Str} (a : N[i]? = some x) (b : N[j]? = some x) : i = j := by
  obtain ⟨h1, e1⟩ := List.getElem?_eq_some_iff.mp a
  obtain ⟨h2, e2⟩ := List.getElem?_eq_some_iff.mp b
  exact (List.getElem_inj hN).mp (e1.trans e2.symm)

/-- a name is stored; what changed -/
theorem store_ok2 {M : Model} {A : Around} {E : Value → Shared → Prop} {i : Nat} {x : Str} {v : V} {u : Value} {Q : Unit → Shared → Prop} (I : Inv X pins σ H s) (hN : X.N.Nodup) (hi : X.N[i]? = some x) (hx : Loc X.env.scope x) (r : RelV v u)
    (h : ∀ s', Inv X pins (σ.set i (some v)) H s' → (∃ a, Heap.SameBut a s.heap s'.heap ∧ (a = X.env.locals ∨ X.env.cells.lookup x = some a)) → Q () s') (hf : X.fn x = true ∨ X.env.scope.names.lookup x = some .local := by first | exact .inl rfl | exact .inr rfl | assumption) : wpAny M A (storeName X.env x u) Q E s := by
  obtain ⟨m, hn, hl⟩ := id I.loc
  have hcls : (X.env.scope.kind == .class || (X.env.scope.kind == .module && X.env.locals != X.env.globals)) = false := by rw [I.ok.kind]; rfl
  have hiσ : i < σ.length := by rw [I.len]; exact (List.getElem?_eq_some_iff.mp hi).1
  have cne := I.cne
  have tracked : ∀ {a : Addr} {h' : Heap}, (∃ o, s.heap.get? a = some o ∧ H a = none) → Heap.SameBut a s.heap h' → HOk X.prog X.w H h' := fun {a h'} ha hs b ob e => by
    obtain ⟨_, _, hfree⟩ := ha
    refine (I.hok b ob e).stay (fun c w' hc q => (hs.2 c ?_).trans q) (fun _ q => q) fun _ _ q => q
    rintro rfl
    rcases hc with rfl | hc
    · rw [hfree] at e; cases e
    · rw [hfree] at hc; cases hc
  rcases hx with hk | hk
  · refine wpAny_storeName_local hk hn (fun h' hn' hs => ?_) hcls
    obtain ⟨oL, _, _, hoL, _⟩ := id hn
    refine h _ ⟨I.ok, I.os, I.bare, ⟨fun b o e n hb hx => ?_, fun b o e n hb hx => ?_, I.base.free, fun b o e hx => ?_, I.base.tups, I.base.frzs, I.base.tbls⟩, ⟨_, hn', fun j y v' e1 e2 e3 => ?_⟩, fun y c e => ?_, I.free, I.freeC, fun p hp => ?_, tracked ⟨oL, hoL, I.free⟩ hs, by simpa using I.len⟩ ⟨_, hs, .inl rfl⟩
    · exact (hs.2 b (Nat.ne_of_lt (Nat.lt_of_lt_of_le (Heap.lt_size e) I.ok.above))).trans (I.base.keep b o e n hb hx)
    · obtain ⟨sl, e1⟩ := I.base.slot b o e n hb hx
      exact ⟨sl, (hs.2 b (Nat.ne_of_lt (Nat.lt_of_lt_of_le (Heap.lt_size e) I.ok.above))).trans e1⟩
    · obtain ⟨o', e1⟩ := I.base.there b o e hx
      exact ⟨o', (hs.2 b (Nat.ne_of_lt (Nat.lt_of_lt_of_le (Heap.lt_size e) I.ok.above))).trans e1⟩
    · by_cases hj : j = i
      · subst hj
        rw [hi] at e1; cases e1
        rw [List.getElem?_set_self hiσ] at e2
        cases e2
        exact ⟨u, r, .inl ⟨hk, by simp⟩⟩
      · rw [List.getElem?_set_ne (Ne.symm hj)] at e2
        obtain ⟨u', r', q⟩ := hl j y v' e1 e2 e3
        refine ⟨u', r', ?_⟩
        rcases q with ⟨k, e⟩ | ⟨k, c, e, z⟩
        · refine .inl ⟨k, ?_⟩
          have : y ≠ x := fun e => hj (nodup_ix hN e1 (e ▸ hi))
          simp [this, e]
        · exact .inr ⟨k, c, e, z.sameBut hs (cne y c e)⟩
    · obtain ⟨w', z⟩ := I.cell y c e
      exact ⟨w', z.sameBut hs (cne y c e)⟩
    · obtain ⟨e, n, ne, nf, d⟩ := I.pin p hp
      exact ⟨(hs.2 p.1 ne).trans e, n, ne, nf, d⟩
  · have hfn : X.fn x = true := by
      rcases hf with z | z
      · exact z
      · rw [z] at hk; cases hk
    obtain ⟨c, hc⟩ := I.ok.has x (.inl hk)
    obtain ⟨w', z⟩ := I.cell x c hc
    refine wpAny_storeName_cell I.ok.kind hk hc z (fun h' hc' hs => ?_)
    obtain ⟨oc, hoc, hocd⟩ := id z
    refine h { s with heap := h' } ⟨I.ok, I.os, I.bare, ⟨fun b o e n hb hx => ?_, fun b o e n hb hx => ?_, I.base.free, fun b o e hx => ?_, I.base.tups, I.base.frzs, I.base.tbls⟩, ⟨m, hn.sameBut hs (Ne.symm (cne x c hc)), fun j y v' e1 e2 e3 => ?_⟩, fun y c' e => ?_, I.free, I.freeC, fun p hp => ?_, tracked ⟨oc, hoc, I.freeC x c hc⟩ hs, by simpa using I.len⟩ ⟨c, hs, .inr hc⟩
    · exact (hs.2 b (Nat.ne_of_lt (Nat.lt_of_lt_of_le (Heap.lt_size e) (I.ok.cab x c hfn hc)))).trans (I.base.keep b o e n hb hx)
    · obtain ⟨sl, e1⟩ := I.base.slot b o e n hb hx
      exact ⟨sl, (hs.2 b (Nat.ne_of_lt (Nat.lt_of_lt_of_le (Heap.lt_size e) (I.ok.cab x c hfn hc)))).trans e1⟩
    · obtain ⟨o', e1⟩ := I.base.there b o e hx
      exact ⟨o', (hs.2 b (Nat.ne_of_lt (Nat.lt_of_lt_of_le (Heap.lt_size e) (I.ok.cab x c hfn hc)))).trans e1⟩
    · by_cases hj : j = i
      · subst hj
        rw [hi] at e1; cases e1
        rw [List.getElem?_set_self hiσ] at e2
        cases e2
        exact ⟨u, r, .inr ⟨.inl hk, c, hc, hc'⟩⟩
      · rw [List.getElem?_set_ne (Ne.symm hj)] at e2
        obtain ⟨u', r', q⟩ := hl j y v' e1 e2 e3
        refine ⟨u', r', ?_⟩
        rcases q with q | ⟨k, c', e, z'⟩
        · exact .inl q
        · refine .inr ⟨k, c', e, z'.sameBut hs ?_⟩
          rintro rfl
          exact hj (nodup_ix hN e1 (I.ok.inj _ _ _ e hc ▸ hi))
    · by_cases hcc : c' = c
      · subst hcc; exact ⟨_, hc'⟩
      · obtain ⟨w2, z2⟩ := I.cell y c' e
        exact ⟨w2, z2.sameBut hs hcc⟩
    · obtain ⟨e, n, ne, nf, d⟩ := I.pin p hp
      refine ⟨(hs.2 p.1 ?_).trans e, n, ne, nf, d⟩
      intro q
      rw [q, hoc] at e
      have q' : oc = p.2 := Option.some.inj e
      exact d w' (by rw [← q']; exact hocd)
theorem store_ok {M : Model} {A : Around} {E : Value → Shared → Prop} {i : Nat} {x : Str} {v : V} {u : Value} {Q : Unit → Shared → Prop} (I : Inv X pins σ H s) (hN : X.N.Nodup) (hi : X.N[i]? = some x) (hx : Loc X.env.scope x) (r : RelV v u)
    (h : ∀ s', Inv X pins (σ.set i (some v)) H s' → Q () s') (hf : X.fn x = true ∨ X.env.scope.names.lookup x = some .local := by first | exact .inl rfl | exact .inr rfl | assumption) : wpAny M A (storeName X.env x u) Q E s :=
  store_ok2 I hN hi hx r (fun s' I' _ => h s' I') hf
/-- behind a call or a block, the state as it is -/
theorem Inv.call' {s' : Shared} {ch : List Addr} (I : Inv X pins σ H s) (ho : s'.os = s.os) (u : Un (frs X.stack) ch H H' s.heap s'.heap) (hok : HOk X.prog X.w H' s'.heap) (hg : AllBare s'.gens)
    (hch : ∀ b ∈ ch, (b ∈ X.ex ∨ X.s₀.heap.objs.size ≤ b) ∧ b ≠ X.env.locals ∧ (∀ x c, X.env.cells.lookup x = some c → c ≠ b) ∧ ∀ p ∈ X.pn ++ pins, p.1 ≠ b) : Inv X pins σ H' s' := by
  obtain ⟨h', g', d', t', o'⟩ := s'
  have e : o' = s.os := ho
  subst e
  exact I.call (g' := g') (t' := t') (d' := d') u hok hg hch
end

/-! ### the judgements -/
/-- an exception: its class, its own dict's address (where it has one), the abstract heap behind it -/
abbrev XK := Value → Option Addr → Hp → Prop
abbrev St := List (Option V)
abbrev VK := V → Hp → Prop
/-- an expression's reading; a test's; an argument list's -/
abbrev TE := St → Hp → VK → Prop
abbrev TT := St → Hp → (Bool → Hp → Prop) → Prop
abbrev TA := St → Hp → (List V → Hp → Prop) → Prop
/-- what is wanted behind a statement -/
structure Ends where
  nx : St → Hp → Prop
  rt : VK
  bk : St → Hp → Prop := fun _ _ => False
  ct : St → Hp → Prop := fun _ _ => False
abbrev TS := Ends → St → Hp → Prop

def EP (X : Cx) (pins : List (Addr × Obj)) (σ : St) (Q : VK) (u : Value) (s' : Shared) : Prop := ∃ v H', Inv X pins σ H' s' ∧ RelV v u ∧ Q v H'
def TP (X : Cx) (pins : List (Addr × Obj)) (σ : St) (Q : Bool → Hp → Prop) (b : Bool) (s' : Shared) : Prop := ∃ H', Inv X pins σ H' s' ∧ Q b H'
def AP (X : Cx) (pins : List (Addr × Obj)) (σ : St) (Q : List V → Hp → Prop) (us : List Value) (s' : Shared) : Prop := ∃ vs H', Inv X pins σ H' s' ∧ Vals vs us ∧ Q vs H'
def SP (X : Cx) (pins : List (Addr × Obj)) (D : Ends) (f : Flow) (s' : Shared) : Prop :=
  match f with
  | .next => ∃ σ' H', Inv X pins σ' H' s' ∧ D.nx σ' H'
  | .brk => ∃ σ' H', Inv X pins σ' H' s' ∧ D.bk σ' H'
  | .cont => ∃ σ' H', Inv X pins σ' H' s' ∧ D.ct σ' H'
  | .ret u => ∃ v σ' H', Inv X pins σ' H' s' ∧ RelV v u ∧ D.rt v H'

def PE (X : Cx) (e : Expr) (t : TE) : Prop :=
  ∀ (pins : List (Addr × Obj)) (s : Shared) (σ : St) (H : Hp) (Q : VK), Inv X pins σ H s → t σ H Q → wpAny (model X.prog X.w) X.A (eval e X.env) (EP X pins σ Q) X.xe s
def PT (X : Cx) (e : Expr) (t : TT) : Prop :=
  ∀ (pins : List (Addr × Obj)) (s : Shared) (σ : St) (H : Hp) (Q : Bool → Hp → Prop), Inv X pins σ H s → t σ H Q → wpAny (model X.prog X.w) X.A (isTrue e X.env (eval e X.env)) (TP X pins σ Q) X.xe s
/-- a test whatever its 'whole' is (and, or) -/
def PW (X : Cx) (e : Expr) (t : TT) : Prop :=
  ∀ (whole : Sem Value) (pins : List (Addr × Obj)) (s : Shared) (σ : St) (H : Hp) (Q : Bool → Hp → Prop), Inv X pins σ H s → t σ H Q → wpAny (model X.prog X.w) X.A (isTrue e X.env whole) (TP X pins σ Q) X.xe s
theorem PW.pt {X : Cx} {e : Expr} {t : TT} (h : PW X e t) : PT X e t := h _
/-- an argument list (no star), from the left -/
def PA (X : Cx) (es : List Expr) (t : TA) : Prop :=
  ∀ (pos : Pos) (pins : List (Addr × Obj)) (s : Shared) (σ : St) (H : Hp) (Q : List V → Hp → Prop), Inv X pins σ H s → t σ H Q → wpAny (model X.prog X.w) X.A (spliced (backTo pos (starEach es X.env))) (AP X pins σ Q) X.xe s
def PS (X : Cx) (st : Stmt) (t : TS) : Prop :=
  ∀ (pins : List (Addr × Obj)) (s : Shared) (σ : St) (H : Hp) (D : Ends), Inv X pins σ H s → t D σ H → wpAny (model X.prog X.w) X.A (exec st X.env) (SP X pins D) X.xe s
def PSs (X : Cx) (st : List Stmt) (t : TS) : Prop :=
  ∀ (pins : List (Addr × Obj)) (s : Shared) (σ : St) (H : Hp) (D : Ends), Inv X pins σ H s → t D σ H → wpAny (model X.prog X.w) X.A (execs st X.env) (SP X pins D) X.xe s
/-- weaken the end -/
theorem thn {α : Type} {t : Sem α} {Q Q' : α → Shared → Prop} {M : Model} {A : Around} {E : Value → Shared → Prop} {s : Shared} (h : wpAny M A t Q E s) (hQ : ∀ a s, Q a s → Q' a s) : wpAny M A t Q' E s := wpAny_mono h hQ fun _ _ x => x
end L2

namespace L2
open PySem PySem.Spec PyProof.Rows
section
variable {X : Cx}

/-- two expressions in a row -/
theorem bin {a b : Expr} {ta tb : TE} (ha : PE X a ta) (hb : PE X b tb) {pins : List (Addr × Obj)} {s : Shared} {σ : St} {H : Hp} {R : V → V → Hp → Prop} (I : Inv X pins σ H s) (h : ta σ H fun x H1 => tb σ H1 fun y H2 => R x y H2)
    {α : Type} {Q : α → Shared → Prop} {f : Value → Value → Sem α}
    (hf : ∀ v u s2 x y H2, Inv X pins σ H2 s2 → RelV x v → RelV y u → R x y H2 → wpAny (model X.prog X.w) X.A (f v u) Q X.xe s2) :
    wpAny (model X.prog X.w) X.A (eval a X.env) (fun v s₁ => wpAny (model X.prog X.w) X.A (eval b X.env) (fun u s₂ => wpAny (model X.prog X.w) X.A (f v u) Q X.xe s₂) X.xe s₁) X.xe s := by
  refine thn (ha pins s σ H _ I h) fun v s1 ⟨x, H1, I1, r1, q1⟩ => ?_
  refine thn (hb pins s1 σ H1 _ I1 q1) fun u s2 ⟨y, H2, I2, r2, q2⟩ => ?_
  exact hf v u s2 x y H2 I2 r1 r2 q2

/-! ### names and constants -/
def tVar (i : Nat) : TE := fun σ H Q => ∃ v, σ[i]? = some (some v) ∧ Q v H
def tC (v : V) : TE := fun _ H Q => Q v H
theorem pe_var {i : Nat} {x : Str} {pos : Pos} (hN : X.N[i]? = some x) (hv : Vis X.env.scope x) (hd : (x == ("__debug__" : Str)) = false := by decide) (hcd : (x == ("__classdict__" : Str)) = false := by decide) : PE X (.Name x pos) (tVar i) := by
  intro pins s σ H Q I h
  obtain ⟨v, e, h⟩ := h
  obtain ⟨m, hn, hl⟩ := I.loc
  obtain ⟨u, r, l⟩ := hl i x v hN e hv
  have fin : EP X pins σ Q u s := ⟨v, H, I, r, h⟩
  rcases l with ⟨hk, hm⟩ | ⟨hk, c, hc, hcell⟩
  · exact wpAny_Name (wpAny_loadName_local I.ok.kind hk hn hm fin) hd
  · rcases hk with hk | hk
    · exact wpAny_Name (wpAny_loadName_cell I.ok.kind hk hc hcell fin) hd
    · exact wpAny_Name (wpAny_loadName_free I.ok.kind hk hc hcell fin hcd) hd
theorem pe_int {i j pos} : PE X (.Constant (.int i) j pos) (tC (.int i)) := fun _ _ _ H _ I h => wpAny_Constant_int ⟨.int i, H, I.tok _, ⟨_, rfl⟩, h⟩
theorem pe_bl {b j pos} : PE X (.Constant (.bool b) j pos) (tC (.bl b)) := fun _ _ _ H _ I h => Constant_bool ⟨.bl b, H, I, rfl, h⟩
theorem pe_non {j pos} : PE X (.Constant .none j pos) (tC .non) := fun _ _ _ H _ I h => Constant_none ⟨.non, H, I, rfl, h⟩
theorem pe_str {x j pos} : PE X (.Constant (.str x) j pos) (tC (.str x)) := fun _ _ _ H _ I h => Calls.Constant_str ⟨.str x, H, I.tok _, ⟨_, rfl⟩, h⟩

/-- a global name of the def -/
def Gl (X : Cx) (x : Str) : Prop := X.env.kindOf x = some .globalImplicit
theorem ld_glob {E : Value → Shared → Prop} {pins : List (Addr × Obj)} {s : Shared} {σ : St} {H : Hp} {x : Str} {u : Value} {pos : Pos} {Q : Value → Shared → Prop} (I : Inv X pins σ H s) (hg : Gl X x) (hm : X.mg x = some u) (h : Q u s)
    (hd : (x == ("__debug__" : Str)) = false := by decide) : wpAny (model X.prog X.w) X.A (eval (.Name x pos) X.env) Q E s :=
  Calls.Name_function_global I.ok.kind hg (Calls.loadGlobal_global (by rw [I.ok.glob]; exact I.mod.glob.keeps I.bk) hm h) hd
theorem ld_blt {E : Value → Shared → Prop} {pins : List (Addr × Obj)} {s : Shared} {σ : St} {H : Hp} {x : Str} {u : Value} {pos : Pos} {Q : Value → Shared → Prop} (I : Inv X pins σ H s) (hg : Gl X x) (hm : X.mg x = none) (hv : bootBuiltins x = some u) (h : Q u s)
    (hn : x ≠ "__name__" := by decide) (hd : (x == ("__debug__" : Str)) = false := by decide) : wpAny (model X.prog X.w) X.A (eval (.Name x pos) X.env) Q E s := by
  obtain ⟨mb, h1, h2⟩ := I.mod.blt
  exact Calls.Name_function_global I.ok.kind hg (Calls.loadGlobal_builtin (by rw [I.ok.glob]; exact I.mod.glob.keeps I.bk) hm (by rw [I.ok.blt]; exact h1.keeps I.bk) ((h2 x hn).trans hv) h) hd
/-- a module's constant, a class, a function, as a value -/
theorem pe_glob {x : Str} {v : V} {u : Value} {pos : Pos} (hg : Gl X x) (hm : X.mg x = some u) (r : RelV v u) (hd : (x == ("__debug__" : Str)) = false := by decide) : PE X (.Name x pos) (tC v) :=
  fun _ _ _ H _ I h => ld_glob I hg hm ⟨v, H, I, r, h⟩ hd
theorem pe_bltn {x : Str} {v : V} {u : Value} {pos : Pos} (hg : Gl X x) (hm : X.mg x = none) (hv : bootBuiltins x = some u) (r : RelV v u) (hn : x ≠ "__name__" := by decide) (hd : (x == ("__debug__" : Str)) = false := by decide) : PE X (.Name x pos) (tC v) :=
  fun _ _ _ H _ I h => ld_blt I hg hm hv ⟨v, H, I, r, h⟩ hn hd

/-! ### arithmetic -/
/-- two ints -/
def t2I (ta tb : TE) (k : Int → Int → Hp → Prop) : St → Hp → Prop := fun σ H => ta σ H fun x H1 => tb σ H1 fun y H2 => ∃ i j, x = .int i ∧ y = .int j ∧ k i j H2
def tAdd (ta tb : TE) : TE := fun σ H Q => t2I ta tb (fun i j H2 => Q (.int (i + j)) H2) σ H
def tSub (ta tb : TE) : TE := fun σ H Q => t2I ta tb (fun i j H2 => Q (.int (i - j)) H2) σ H
/-- the left factor below 2^64 -/
def tMul (ta tb : TE) : TE := fun σ H Q => t2I ta tb (fun i j H2 => (-(2 ^ 64) < i ∧ i < 2 ^ 64) ∧ Q (.int (i * j)) H2) σ H
variable {a b : Expr} {ta tb : TE} {pos : Pos}
theorem pe_add (ha : PE X a ta) (hb : PE X b tb) : PE X (.BinOp a .Add b pos) (tAdd ta tb) := by
  intro pins s σ H Q I h
  refine wpAny_BinOp (bin ha hb I h fun v u s2 x y H2 I2 rx ry q => ?_)
  obtain ⟨i, j, rfl, rfl, q⟩ := q
  obtain ⟨t, rfl⟩ := rx
  obtain ⟨t', rfl⟩ := ry
  exact add_int ⟨.int _, H2, I2.tok _, ⟨_, rfl⟩, q⟩
theorem pe_sub (ha : PE X a ta) (hb : PE X b tb) : PE X (.BinOp a .Sub b pos) (tSub ta tb) := by
  intro pins s σ H Q I h
  refine wpAny_BinOp (bin ha hb I h fun v u s2 x y H2 I2 rx ry q => ?_)
  obtain ⟨i, j, rfl, rfl, q⟩ := q
  obtain ⟨t, rfl⟩ := rx
  obtain ⟨t', rfl⟩ := ry
  exact sub_int ⟨.int _, H2, I2.tok _, ⟨_, rfl⟩, q⟩
theorem pe_mul (ha : PE X a ta) (hb : PE X b tb) : PE X (.BinOp a .Mult b pos) (tMul ta tb) := by
  intro pins s σ H Q I h
  refine wpAny_BinOp (bin ha hb I h fun v u s2 x y H2 I2 rx ry q => ?_)
  obtain ⟨i, j, rfl, rfl, ⟨q1, q2⟩, q⟩ := q
  obtain ⟨t, rfl⟩ := rx
  obtain ⟨t', rfl⟩ := ry
  exact mul_int ⟨.int _, H2, I2.tok _, ⟨_, rfl⟩, q⟩ (.of_left (intBits_le_64 q1 q2))

/-! ### comparisons -/
def PC (X : Cx) (op : CmpOp) (a b : Expr) (t : TE) : Prop :=
  ∀ (pins : List (Addr × Obj)) (s : Shared) (σ : St) (H : Hp) (Q : VK), Inv X pins σ H s → t σ H Q →
    wpAny (model X.prog X.w) X.A (eval a X.env) (fun v s₁ => wpAny (model X.prog X.w) X.A (eval b X.env) (fun u s₂ => wpAny (model X.prog X.w) X.A (compareOp op v u) (EP X pins σ Q) X.xe s₂) X.xe s₁) X.xe s
theorem nobehind (b : Expr) {op : CmpOp} (h : op ≠ .In) (h2 : op ≠ .NotIn) : behindInMarks op b = false := by
  have e1 : (op == CmpOp.In) = false := by cases op <;> first | rfl | exact absurd rfl h
  have e2 : (op == CmpOp.NotIn) = false := by cases op <;> first | rfl | exact absurd rfl h2
  cases b <;> simp [behindInMarks, e1, e2]
def tCmp (p : Int → Int → Bool) (ta tb : TE) : TE := fun σ H Q => t2I ta tb (fun i j H2 => Q (.bl (p i j)) H2) σ H
abbrev tLt : TE → TE → TE := tCmp fun i j => decide (i < j)
abbrev tLe : TE → TE → TE := tCmp fun i j => decide (i ≤ j)
abbrev tGt : TE → TE → TE := tCmp fun i j => decide (j < i)
abbrev tGe : TE → TE → TE := tCmp fun i j => decide (j ≤ i)
abbrev tEqI : TE → TE → TE := tCmp fun i j => decide (i = j)
abbrev tNeI : TE → TE → TE := tCmp fun i j => !decide (i = j)
/-- a comparison of two ints, by its rule -/
theorem pc_int {op : CmpOp} {p : Int → Int → Bool} (ha : PE X a ta) (hb : PE X b tb)
    (rule : ∀ (i j : Int) (t u : Tok) (Q : Value → Shared → Prop) (s : Shared), Q (.bool (p i j)) s → wpAny (model X.prog X.w) X.A (compareOp op (.int i t) (.int j u)) Q X.xe s) : PC X op a b (tCmp p ta tb) := by
  intro pins s σ H Q I h
  refine bin ha hb I h fun v u s2 x y H2 I2 rx ry q => ?_
  obtain ⟨i, j, rfl, rfl, q⟩ := q
  obtain ⟨t, rfl⟩ := rx
  obtain ⟨t', rfl⟩ := ry
  exact rule i j t t' _ s2 ⟨.bl _, H2, I2, rfl, q⟩
theorem pc_lt (ha : PE X a ta) (hb : PE X b tb) : PC X .Lt a b (tLt ta tb) := pc_int ha hb fun _ _ _ _ _ _ h => lt_int h
theorem pc_le (ha : PE X a ta) (hb : PE X b tb) : PC X .LtE a b (tLe ta tb) := pc_int ha hb fun _ _ _ _ _ _ h => le_int h
theorem pc_gt (ha : PE X a ta) (hb : PE X b tb) : PC X .Gt a b (tGt ta tb) := pc_int ha hb fun _ _ _ _ _ _ h => gt_int h
theorem pc_ge (ha : PE X a ta) (hb : PE X b tb) : PC X .GtE a b (tGe ta tb) := pc_int ha hb fun _ _ _ _ _ _ h => ge_int h
theorem pc_eqI (ha : PE X a ta) (hb : PE X b tb) : PC X .Eq a b (tEqI ta tb) := pc_int ha hb fun _ _ _ _ _ _ h => eq_int (by rw [Bool.beq_eq_decide_eq]; exact h)
theorem pc_neI (ha : PE X a ta) (hb : PE X b tb) : PC X .NotEq a b (tNeI ta tb) := pc_int ha hb fun _ _ _ _ _ _ h => ne_int (by rw [bne, Bool.beq_eq_decide_eq]; exact h)
/-- is None -/
def tIsN (ta : TE) : TE := fun σ H Q => ta σ H fun x H1 => Q (.bl (decide (x = .non))) H1
def tNotN (ta : TE) : TE := fun σ H Q => ta σ H fun x H1 => Q (.bl (!decide (x = .non))) H1
theorem RelV.none_iff {x : V} {v : Value} (r : RelV x v) : (v == Value.none) = decide (x = .non) := by
  cases x with
  | non => cases r; rfl
  | bl _ => cases r; rfl
  | int _ => obtain ⟨t, rfl⟩ := r; rfl
  | str _ => obtain ⟨t, rfl⟩ := r; rfl
  | byt _ => obtain ⟨t, rfl⟩ := r; rfl
  | flt _ => obtain ⟨t, rfl⟩ := r; rfl
  | ref _ => cases r; rfl
  | ty _ => cases r; rfl
theorem pc_isN {j pos'} (ha : PE X a ta) : PC X .Is a (.Constant .none j pos') (tIsN ta) := by
  intro pins s σ H Q I h
  refine thn (ha pins s σ H _ I h) fun v s1 ⟨x, H1, I1, r1, q1⟩ => ?_
  exact Constant_none (is_none_gen ⟨.bl _, H1, I1, by rw [r1.none_iff]; rfl, q1⟩)
theorem pc_notN {j pos'} (ha : PE X a ta) : PC X .IsNot a (.Constant .none j pos') (tNotN ta) := by
  intro pins s σ H Q I h
  refine thn (ha pins s σ H _ I h) fun v s1 ⟨x, H1, I1, r1, q1⟩ => ?_
  exact Constant_none (isnot_none_gen ⟨.bl _, H1, I1, by rw [r1.none_iff]; rfl, q1⟩)
/-- a comparison as a value, as a test -/
def tB (t : TE) : TT := fun σ H Q => t σ H fun x H1 => ∃ c, x = .bl c ∧ Q c H1
theorem pe_cmp {op : CmpOp} {t : TE} (h : PC X op a b t) (h1 : behindInMarks op b = false := by first | exact nobehind _ (by decide) (by decide) | rfl) : PE X (.Compare a [op] [b] pos) t := fun pins s σ H Q I hw => wpAny_Compare1 (h pins s σ H Q I hw) h1
theorem pt_cmp {op : CmpOp} {t : TE} (h : PC X op a b t) (h1 : behindInMarks op b = false := by first | exact nobehind _ (by decide) (by decide) | rfl) : PT X (.Compare a [op] [b] pos) (tB t) := by
  intro pins s σ H Q I hw
  refine wpAny_isTrue_Compare1 (thn (h pins s σ H _ I hw) fun v s1 h1 => thn h1 fun u s2 h2 => thn h2 fun c s3 ⟨x, H1, I1, r1, q1⟩ => ?_) h1
  obtain ⟨d, rfl, q⟩ := q1
  cases r1
  exact wpAny_truthy_bool ⟨H1, I1, q⟩
/-- an expression whose value is a bool, as a test -/
theorem pt_val {e : Expr} {t : TE} (h : PE X e t) (he : ∀ whole, isTrue e X.env whole = (do let v ← whole; standAt e.pos; holding [v] (truthy v)) := by intro _; rfl) : PT X e (tB t) := by
  intro pins s σ H Q I hw
  refine isTrue_plain (thn (h pins s σ H _ I hw) fun v s1 ⟨x, H1, I1, r1, q1⟩ => ?_) (he _)
  obtain ⟨d, rfl, q⟩ := q1
  cases r1
  exact wpAny_truthy_bool ⟨H1, I1, q⟩

/-! ### and, or, not -/
variable {tA tB' : TT} {rest : List Expr}
def tAnd (t u : TT) : TT := fun σ H Q => t σ H fun c H1 => if c = true then u σ H1 Q else Q false H1
def tOr (t u : TT) : TT := fun σ H Q => t σ H fun c H1 => if c = true then Q true H1 else u σ H1 Q
def tNot (t : TT) : TT := fun σ H Q => t σ H fun c H1 => Q (!c) H1
theorem pw_and1 (ha : PT X a tA) : PW X (.BoolOp .And [a] pos) tA := by
  intro wh pins s σ H Q I h
  refine isTrue_and (thn (ha pins s σ H Q I h) fun c s1 e => ?_)
  cases c with
  | true => exact isTrue_and_nil e
  | false => exact e
theorem pw_or1 (ha : PT X a tA) : PW X (.BoolOp .Or [a] pos) tA := by
  intro wh pins s σ H Q I h
  refine isTrue_or (thn (ha pins s σ H Q I h) fun c s1 e => ?_)
  cases c with
  | false => exact isTrue_or_nil e
  | true => exact e
theorem pw_and (ha : PT X a tA) (hb : PW X (.BoolOp .And (b :: rest) pos) tB') : PW X (.BoolOp .And (a :: b :: rest) pos) (tAnd tA tB') := by
  intro wh pins s σ H Q I h
  refine isTrue_and (thn (ha pins s σ H _ I h) fun c s1 ⟨H1, I1, q1⟩ => ?_)
  cases c with
  | true => exact hb wh pins s1 σ H1 Q I1 q1
  | false => exact ⟨H1, I1, q1⟩
theorem pw_or (ha : PT X a tA) (hb : PW X (.BoolOp .Or (b :: rest) pos) tB') : PW X (.BoolOp .Or (a :: b :: rest) pos) (tOr tA tB') := by
  intro wh pins s σ H Q I h
  refine isTrue_or (thn (ha pins s σ H _ I h) fun c s1 ⟨H1, I1, q1⟩ => ?_)
  cases c with
  | true => exact ⟨H1, I1, q1⟩
  | false => exact hb wh pins s1 σ H1 Q I1 q1
theorem pt_not (ha : PT X a tA) : PT X (.UnaryOp .Not a pos) (tNot tA) := by
  intro pins s σ H Q I h
  exact isTrue_not (ha pins s σ H (fun c H1 => Q (!c) H1) I h)
/-- .. as values (bools) -/
def tAndV (ta tb : TE) : TE := fun σ H Q => ta σ H fun x H1 => ∃ c, x = .bl c ∧ if c = true then tb σ H1 Q else Q (.bl false) H1
def tOrV (ta tb : TE) : TE := fun σ H Q => ta σ H fun x H1 => ∃ c, x = .bl c ∧ if c = true then Q (.bl true) H1 else tb σ H1 Q
def tNotV (ta : TE) : TE := fun σ H Q => ta σ H fun x H1 => ∃ c, x = .bl c ∧ Q (.bl (!c)) H1
theorem pe_one {op} {t : TE} (h : PE X a t) : PE X (.BoolOp op [a] pos) t := fun pins s σ H Q I hw => BoolOp_one (h pins s σ H Q I hw)
theorem pe_and (ha : PE X a ta) (hb : PE X (.BoolOp .And (b :: rest) pos) tb) : PE X (.BoolOp .And (a :: b :: rest) pos) (tAndV ta tb) := by
  intro pins s σ H Q I h
  refine BoolOp_and (thn (ha pins s σ H _ I h) fun v s1 ⟨x, H1, I1, r1, q1⟩ => ?_)
  obtain ⟨c, rfl, q1⟩ := q1
  cases r1
  refine wpAny_truthy_bool ?_
  cases c with
  | true => exact hb pins s1 σ H1 Q I1 q1
  | false => exact ⟨.bl false, H1, I1, rfl, q1⟩
theorem pe_or (ha : PE X a ta) (hb : PE X (.BoolOp .Or (b :: rest) pos) tb) : PE X (.BoolOp .Or (a :: b :: rest) pos) (tOrV ta tb) := by
  intro pins s σ H Q I h
  refine BoolOp_or (thn (ha pins s σ H _ I h) fun v s1 ⟨x, H1, I1, r1, q1⟩ => ?_)
  obtain ⟨c, rfl, q1⟩ := q1
  cases r1
  refine wpAny_truthy_bool ?_
  cases c with
  | false => exact hb pins s1 σ H1 Q I1 q1
  | true => exact ⟨.bl true, H1, I1, rfl, q1⟩
theorem pe_not (ha : PE X a ta) : PE X (.UnaryOp .Not a pos) (tNotV ta) := by
  intro pins s σ H Q I h
  refine UnaryOp_ (thn (ha pins s σ H _ I h) fun v s1 ⟨x, H1, I1, r1, q1⟩ => ?_)
  obtain ⟨c, rfl, q1⟩ := q1
  cases r1
  exact not_of (wpAny_truthy_bool ⟨.bl (!c), H1, I1, rfl, q1⟩)
/-- a if t else b -/
def tIf (t : TT) (ta tb : TE) : TE := fun σ H Q => t σ H fun c H1 => if c = true then ta σ H1 Q else tb σ H1 Q
theorem pe_ifExp {c : Expr} (hc : PT X c tA) (ha : PE X a ta) (hb : PE X b tb) : PE X (.IfExp c a b pos) (tIf tA ta tb) := by
  intro pins s σ H Q I h
  refine wpAny_IfExp (thn (hc pins s σ H _ I h) fun d s1 ⟨H1, I1, q1⟩ => ?_)
  cases d with
  | true => exact ha pins s1 σ H1 Q I1 q1
  | false => exact hb pins s1 σ H1 Q I1 q1
end
end L2

namespace L2
open PySem PySem.Spec PyProof.Rows

/-! ### a list, a tuple that is read: tracked, frozen, or an object of the module -/
def SqL (K : PySem.W.Frag) (H : Hp) (a : Addr) (xs : List V) : Prop :=
  Rd H a (.lst xs) ∨
    ∃ (o : Obj) (its : Array Value) (n : Nat), K.lookup a = some o ∧ o.cls = .type "list" ∧ o.dict = none ∧ o.data = .seq its n ∧ its.size ≤ sizeLine ∧ Vals xs its.toList
def SqT (K : PySem.W.Frag) (H : Hp) (a : Addr) (xs : List V) : Prop :=
  Rd H a (.tup xs) ∨
    ∃ (o : Obj) (its : Array Value) (n : Nat), K.lookup a = some o ∧ o.cls = .type "tuple" ∧ o.data = .seq its n ∧ its.size ≤ sizeLine ∧ Vals xs its.toList
def absV : Value → Option V
  | .none => some .non
  | .bool b => some (.bl b)
  | .int i _ => some (.int i)
  | .str x _ => some (.str x)
  | .bytes b _ => some (.byt b)
  | .float b _ => some (.flt b)
  | .ref a => some (.ref a)
  | .type n => some (.ty n)
  | _ => none
theorem RelV.abs {x : V} {u : Value} (r : RelV x u) : absV u = some x := by
  cases x with
  | non => cases r; rfl
  | bl _ => cases r; rfl
  | int _ => obtain ⟨t, rfl⟩ := r; rfl
  | str _ => obtain ⟨t, rfl⟩ := r; rfl
  | byt _ => obtain ⟨t, rfl⟩ := r; rfl
  | flt _ => obtain ⟨t, rfl⟩ := r; rfl
  | ref _ => cases r; rfl
  | ty _ => cases r; rfl
theorem RelV.inj {x y : V} {u : Value} (r : RelV x u) (q : RelV y u) : x = y := Option.some.inj (r.abs.symm.trans q.abs)
theorem Vals.inj : ∀ {xs ys : List V} {us : List Value}, Vals xs us → Vals ys us → xs = ys
  | _, _, _, .nil, .nil => rfl
  | _, _, _, .cons r t, .cons r' t' => by rw [r.inj r', Vals.inj t t']
section
variable {X : Cx} {pins : List (Addr × Obj)} {σ : St} {H : Hp} {s : Shared} {a : Addr} {xs ys : List V}
theorem SqL.of {K : PySem.W.Frag} (h : H a = some (.lst xs)) : SqL K H a xs := .inl (.inl h)
theorem SqT.of {K : PySem.W.Frag} (h : H a = some (.tup xs)) : SqT K H a xs := .inl (.inl h)
theorem Inv.list (I : Inv X pins σ H s) (h : SqL X.K H a xs) : ∃ its : List Value, Vals xs its ∧ PlainL s.heap a its.toArray ∧ xs.length ≤ sizeLine := by
  rcases h with h | ⟨o, its, n, hk, hc, hd, hs, hz, r⟩
  · obtain ⟨z, its, n, r, e⟩ := h.ok I.hok
    exact ⟨its, r, ⟨_, n, e, rfl, rfl, rfl⟩, z⟩
  · refine ⟨its.toList, r, ⟨o, n, I.kIn a o hk, hc, hd, by simpa using hs⟩, ?_⟩
    have e := r.length
    simp only [Array.length_toList] at e
    omega
theorem Inv.tuple (I : Inv X pins σ H s) (h : SqT X.K H a xs) : ∃ its : List Value, Vals xs its ∧ IsTup s.heap a its.toArray ∧ xs.length ≤ sizeLine := by
  rcases h with h | ⟨o, its, n, hk, hc, hs, hz, r⟩
  · obtain ⟨z, its, r, p⟩ := h.ok I.hok
    exact ⟨its, r, p, z⟩
  · refine ⟨its.toList, r, ⟨o, I.kIn a o hk, hc, n, by simpa using hs⟩, ?_⟩
    have e := r.length
    simp only [Array.length_toList] at e
    omega
theorem Inv.list_inj (I : Inv X pins σ H s) (h : SqL X.K H a xs) (h' : SqL X.K H a ys) : xs = ys := by
  obtain ⟨its, r, ⟨o, n, e, _, _, d⟩, _⟩ := I.list h
  obtain ⟨its', r', ⟨o', n', e', _, _, d'⟩, _⟩ := I.list h'
  rw [e] at e'; cases e'
  rw [d] at d'
  injection d' with d1 _
  have : its = its' := by simpa using congrArg Array.toList d1
  subst this
  exact r.inj r'
theorem Inv.tuple_inj (I : Inv X pins σ H s) (h : SqT X.K H a xs) (h' : SqT X.K H a ys) : xs = ys := by
  obtain ⟨its, r, ⟨o, e, _, n, d⟩, _⟩ := I.tuple h
  obtain ⟨its', r', ⟨o', e', _, n', d'⟩, _⟩ := I.tuple h'
  rw [e] at e'; cases e'
  rw [d] at d'
  injection d' with d1 _
  have : its = its' := by simpa using congrArg Array.toList d1
  subst this
  exact r.inj r'
end

/-! ### another wish about exceptions -/
abbrev Cx.wish (X : Cx) (E : Value → Shared → Prop) : Cx := { X with xe := E }
/-- no exception leaves -/
abbrev Cx.nox (X : Cx) : Cx := X.wish fun _ _ => False
theorem Cx.Ok.wish {X : Cx} (ok : X.Ok) (E : Value → Shared → Prop) : (X.wish E).Ok :=
  ⟨ok.mod, ok.kind, ok.glob, ok.blt, ok.above, ok.inj, ok.has, ok.cab, ok.hd, ok.frames, ok.stk, ok.exf, ok.bs, ok.bsz, ok.noex, ok.exfs, ok.funs, ok.frf⟩
theorem Cx.Ok.unwish {X : Cx} {E : Value → Shared → Prop} (ok : (X.wish E).Ok) : X.Ok :=
  ⟨ok.mod, ok.kind, ok.glob, ok.blt, ok.above, ok.inj, ok.has, ok.cab, ok.hd, ok.frames, ok.stk, ok.exf, ok.bs, ok.bsz, ok.noex, ok.exfs, ok.funs, ok.frf⟩
section
variable {X : Cx} {pins : List (Addr × Obj)} {σ : St} {H : Hp} {s : Shared} {E : Value → Shared → Prop}
theorem Inv.wish (I : Inv X pins σ H s) (E : Value → Shared → Prop) : Inv (X.wish E) pins σ H s := ⟨I.ok.wish E, I.os, I.bare, I.base, I.loc, I.cell, I.free, I.freeC, I.pin, I.hok, I.len⟩
theorem Inv.unwish (I : Inv (X.wish E) pins σ H s) : Inv X pins σ H s := ⟨I.ok.unwish, I.os, I.bare, I.base, I.loc, I.cell, I.free, I.freeC, I.pin, I.hok, I.len⟩
theorem SP.unwish {D : Ends} {f : Flow} {s' : Shared} (h : SP (X.wish E) pins D f s') : SP X pins D f s' := by
  cases f with
  | next => obtain ⟨σ', H', I, q⟩ := h; exact ⟨σ', H', I.unwish, q⟩
  | brk => obtain ⟨σ', H', I, q⟩ := h; exact ⟨σ', H', I.unwish, q⟩
  | cont => obtain ⟨σ', H', I, q⟩ := h; exact ⟨σ', H', I.unwish, q⟩
  | ret u => obtain ⟨v, σ', H', I, r, q⟩ := h; exact ⟨v, σ', H', I.unwish, r, q⟩
theorem PE.nox {e : Expr} {t : TE} (h : PE X.nox e t) : PE X e t := fun pins s σ H Q I hw =>
  wpAny_mono (h pins s σ H Q (I.wish _) hw) (fun _ _ ⟨v, H', I', r, q⟩ => ⟨v, H', I'.unwish, r, q⟩) fun _ _ z => False.elim z
theorem PT.nox {e : Expr} {t : TT} (h : PT X.nox e t) : PT X e t := fun pins s σ H Q I hw =>
  wpAny_mono (h pins s σ H Q (I.wish _) hw) (fun _ _ ⟨H', I', q⟩ => ⟨H', I'.unwish, q⟩) fun _ _ z => False.elim z
theorem PSs.nox {st : List Stmt} {t : TS} (h : PSs X.nox st t) : PSs X st t := fun pins s σ H D I hw =>
  wpAny_mono (h pins s σ H D (I.wish _) hw) (fun _ _ q => q.unwish) fun _ _ z => False.elim z
end

/-! ### blocks and small statements -/
section
variable {X : Cx} {st : Stmt} {rest : List Stmt} {t u : TS} {e : Expr} {te : TE} {pos : Pos}
def tNext : TS := fun D σ H => D.nx σ H
def tSeq (t u : TS) : TS := fun D σ H => t { D with nx := u D } σ H
theorem pss_nil : PSs X [] tNext := fun _ _ σ H _ I h => wpAny_execs_nil ⟨σ, H, I, h⟩
theorem pss_cons (h1 : PS X st t) (h2 : PSs X rest u) : PSs X (st :: rest) (tSeq t u) := by
  intro pins s σ H D I h
  refine wpAny_execs_cons (thn (h1 pins s σ H { D with nx := u D } I h) fun f s1 q => ?_)
  cases f with
  | next =>
    obtain ⟨σ', H', I', q⟩ := q
    exact h2 pins s1 σ' H' D I' q
  | ret v => exact q
  | brk => exact q
  | cont => exact q
theorem pss_one (h1 : PS X st t) : PSs X [st] t := by
  intro pins s σ H D I h
  refine wpAny_execs_cons (thn (h1 pins s σ H D I h) fun f s1 q => ?_)
  cases f with
  | next => exact wpAny_execs_nil q
  | ret v => exact q
  | brk => exact q
  | cont => exact q
def tBreak : TS := fun D σ H => D.bk σ H
def tCont : TS := fun D σ H => D.ct σ H
theorem ps_pass : PS X (.Pass pos) tNext := fun _ _ σ H _ I h => wpAny_Pass ⟨σ, H, I, h⟩
theorem ps_break : PS X (.Break pos) tBreak := fun _ _ σ H _ I h => wpAny_Break ⟨σ, H, I, h⟩
theorem ps_continue : PS X (.Continue pos) tCont := fun _ _ σ H _ I h => wpAny_Continue ⟨σ, H, I, h⟩
/-- in a def's body nothing is shown -/
theorem Inv.quiet {pins : List (Addr × Obj)} {σ : St} {H : Hp} {s : Shared} (I : Inv X pins σ H s) : interactive X.env = false := by simp [interactive, I.ok.kind]
/-- a docstring -/
theorem ps_doc {x j pos pos'} : PS X (.Expr (.Constant (.str x) j pos) pos') tNext := fun _ s σ H _ I h => wpAny_Expr (Calls.Constant_str (show SP X _ _ .next { s with toks := s.toks + 1 } from ⟨σ, H, I.tok _, h⟩)) I.quiet
/-- an expression whose value is dropped -/
def tDrop (te : TE) : TS := fun D σ H => te σ H fun _ H1 => D.nx σ H1
theorem ps_expr (he : PE X e te) (hs : swapsWith e none pos.line X.env = pure false := by rfl) : PS X (.Expr e pos) (tDrop te) := by
  intro pins s σ H D I h
  exact wpAny_Expr_any (thn (he pins s σ H _ I h) fun v s1 ⟨x, H1, I1, r1, q1⟩ => ⟨σ, H1, I1, q1⟩) I.quiet hs
def tRet (te : TE) : TS := fun D σ H => te σ H D.rt
theorem ps_ret (he : PE X e te) : PS X (.Return (some e) pos) (tRet te) := by
  intro pins s σ H D I h
  exact wpAny_Return_some (thn (he pins s σ H _ I h) fun v s1 ⟨x, H1, I1, r1, q1⟩ => ⟨x, σ, H1, I1, r1, q1⟩)
def tRetN : TS := fun D _ H => D.rt .non H
theorem ps_retN : PS X (.Return none pos) tRetN := fun _ _ σ H _ I h => wpAny_Return_none ⟨.non, σ, H, I, rfl, h⟩
def tIfS (c : TT) (t u : TS) : TS := fun D σ H => c σ H fun b H1 => if b = true then t D σ H1 else u D σ H1
theorem ps_if {c : Expr} {a b : List Stmt} {tc : TT} (hc : PT X c tc) (ha : PSs X a t) (hb : PSs X b u) : PS X (.If c a b pos) (tIfS tc t u) := by
  intro pins s σ H D I h
  refine wpAny_If (thn (hc pins s σ H _ I h) fun d s1 ⟨H1, I1, q1⟩ => ?_)
  cases d with
  | true => exact ha pins s1 σ H1 D I1 q1
  | false => exact hb pins s1 σ H1 D I1 q1
/-- code that the proof never comes to -/
def tNever : TS := fun _ _ _ => False
theorem ps_never : PS X st tNever := fun _ _ _ _ _ _ h => h.elim
theorem pss_never {sts : List Stmt} : PSs X sts tNever := fun _ _ _ _ _ _ h => h.elim
end

/-! ### targets -/
abbrev TG := V → St → Hp → (St → Hp → Prop) → Prop
abbrev TGs := List V → St → Hp → (St → Hp → Prop) → Prop
def PG (X : Cx) (target : Expr) (t : TG) : Prop :=
  ∀ (pins : List (Addr × Obj)) (s : Shared) (σ : St) (H : Hp) (v : V) (u : Value) (Q : St → Hp → Prop), Inv X pins σ H s → RelV v u → t v σ H Q →
    wpAny (model X.prog X.w) X.A (assign target X.env u) (fun _ s' => ∃ σ' H', Inv X pins σ' H' s' ∧ Q σ' H') X.xe s
/-- several targets, one after another -/
def PGs (X : Cx) (ts : List Expr) (t : TGs) : Prop :=
  ∀ (pins : List (Addr × Obj)) (s : Shared) (σ : St) (H : Hp) (vs : List V) (us : List Value) (Q : St → Hp → Prop), Inv X pins σ H s → Vals vs us → t vs σ H Q →
    wpAny (model X.prog X.w) X.A (assignInOrder ((assignEach ts X.env).map (·.2)) us) (fun _ s' => ∃ σ' H', Inv X pins σ' H' s' ∧ Q σ' H') X.xe s
/-- o[i] = v, by values -/
abbrev TSet := V → V → V → Hp → (Hp → Prop) → Prop
def PSet (X : Cx) (t : TSet) : Prop :=
  ∀ (pins : List (Addr × Obj)) (s : Shared) (σ : St) (H : Hp) (o i v : V) (ov iv u : Value) (Q : Hp → Prop), Inv X pins σ H s → RelV o ov → RelV i iv → RelV v u → t o i v H Q →
    wpAny (model X.prog X.w) X.A (setItem ov iv u) (fun _ s' => ∃ H', Inv X pins σ H' s' ∧ Q H') X.xe s
/-- a op= b, by values -/
abbrev TIp := V → V → Hp → VK → Prop
def PIp (X : Cx) (op : Operator) (t : TIp) : Prop :=
  ∀ (pins : List (Addr × Obj)) (s : Shared) (σ : St) (H : Hp) (x y : V) (v u : Value) (Q : VK), Inv X pins σ H s → RelV x v → RelV y u → t x y H Q →
    wpAny (model X.prog X.w) X.A (inplaceOp op v u) (EP X pins σ Q) X.xe s
section
variable {X : Cx} {pos : Pos}
def gName (i : Nat) : TG := fun v σ H Q => Q (σ.set i (some v)) H
theorem pg_name {i : Nat} {x : Str} (hN : X.N.Nodup) (hi : X.N[i]? = some x) (hx : Loc X.env.scope x) (hf : X.fn x = true ∨ X.env.scope.names.lookup x = some .local := by first | exact .inl rfl | exact .inr rfl | assumption) : PG X (.Name x pos) (gName i) := by
  intro pins s σ H v u Q I r h
  exact wpAny_assign_Name (store_ok I hN hi hx r (fun s' I' => ⟨_, H, I', h⟩) hf)
def gNil : TGs := fun vs σ H Q => vs = [] ∧ Q σ H
def gCons (t : TG) (u : TGs) : TGs := fun vs σ H Q => ∃ v r, vs = v :: r ∧ t v σ H fun σ' H' => u r σ' H' Q
theorem pgs_nil : PGs X [] gNil := by
  intro pins s σ H vs us Q I r h
  obtain ⟨e, h⟩ := h
  subst e
  cases r
  exact assignInOrder_nil ⟨σ, H, I, h⟩
theorem pgs_cons {e : Expr} {es : List Expr} {t : TG} {u : TGs} (h1 : PG X e t) (h2 : PGs X es u)
    (hs : (assignEach (e :: es) X.env).map (·.2) = assign e X.env :: (assignEach es X.env).map (·.2) := by rfl) : PGs X (e :: es) (gCons t u) := by
  intro pins s σ H vs us Q I r h
  obtain ⟨v, vr, e1, h⟩ := h
  subst e1
  cases r with
  | cons r rr =>
    rw [hs]
    refine assignInOrder_cons (thn (h1 pins s σ H _ _ _ I r h) fun _ s1 ⟨σ1, H1, I1, q1⟩ => ?_)
    exact h2 pins s1 σ1 H1 _ _ Q I1 rr q1
/-- (a, b, ..) = a tuple of that length -/
def gTup (K : PySem.W.Frag) (n : Nat) (t : TGs) : TG := fun v σ H Q => ∃ a xs, v = .ref a ∧ SqT K H a xs ∧ xs.length = n ∧ t xs σ H Q
theorem pg_tup {es : List Expr} {k : Nat} {t : TGs} {n : Nat} (hc : X.calm = true) (h : PGs X es t)
    (hn : (assignEach es X.env).length = n := by rfl) (hst : (assignEach es X.env).findIdx? (·.1) = none := by rfl) : PG X (.Tuple es k pos) (gTup X.K n t) := by
  intro pins s σ H v u Q I r hw
  obtain ⟨a, xs, e1, hq, hl, hw⟩ := hw
  subst e1
  cases r
  obtain ⟨its, rv, ht, hz⟩ := I.tuple hq
  refine assign_Tuple_tuple (I.ok.hd hc) ht (by simp [hn, ← hl, rv.length]) hst fun h' hx => ?_
  have I1 : Inv X pins σ H { s with heap := h' } := I.kept (t' := s.toks) fun b o e => hx b o (Nat.ne_of_lt (Heap.lt_size e)) e
  exact h pins _ σ H xs _ Q I1 (by simpa using rv) hw
/-- o[i] = .. -/
def gSub (to ti : TE) (t : TSet) : TG := fun v σ H Q => to σ H fun o H1 => ti σ H1 fun i H2 => t o i v H2 fun H3 => Q σ H3
theorem pg_sub {o i : Expr} {to ti : TE} {t : TSet} (ho : PE X o to) (hi : PE X i ti) (hs : PSet X t)
    (ha : ∀ v, assign (.Subscript o i pos) X.env v = (do
      let ov ← holding [v] (eval o X.env)
      let iv ← holding [v, ov] (eval i X.env)
      standAt pos
      holding [v, ov, iv] (setItem ov iv v)
      release [v, ov, iv] []) := by intro _; rfl) : PG X (.Subscript o i pos) (gSub to ti t) := by
  intro pins s σ H v u Q I r h
  rw [ha]
  refine wpAny_bind (wpAny_holding (thn (ho pins s σ H _ I h) fun ov s1 ⟨x, H1, I1, r1, q1⟩ => ?_))
  refine wpAny_bind (wpAny_holding (thn (hi pins s1 σ H1 _ I1 q1) fun iv s2 ⟨y, H2, I2, r2, q2⟩ => ?_))
  refine wpAny_bind (wpAny_standAt (wpAny_bind (wpAny_holding (thn (hs pins s2 σ H2 x y v ov iv u _ I2 r1 r2 r q2) fun _ s3 ⟨H3, I3, q3⟩ => ?_))))
  exact wpAny_release ⟨σ, H3, I3, q3⟩
/-- target = value -/
def tAsg (te : TE) (g : TG) : TS := fun D σ H => te σ H fun x H1 => g x σ H1 D.nx
theorem ps_asg {tg e : Expr} {te : TE} {g : TG} (he : PE X e te) (hg : PG X tg g) (hs : swapsWithSole [tg] e pos.line X.env = pure false := by rfl) (hw : swappedStores [tg] e X.env = pure none := by rfl)
    (h1 : (assignEach [tg] X.env).map (·.2) = [assign tg X.env] := by rfl) : PS X (.Assign [tg] e pos) (tAsg te g) := by
  intro pins s σ H D I h
  refine wpAny_Assign_stores (thn (he pins s σ H _ I h) fun v s1 ⟨x, H1, I1, r1, q1⟩ => ?_) hs hw
  rw [h1]
  exact thn (hg pins s1 σ H1 x v _ I1 r1 q1) fun _ s2 q => q
/-- name = value -/
theorem ps_set {i : Nat} {x : Str} {e : Expr} {te : TE} {pos' : Pos} (hN : X.N.Nodup) (hi : X.N[i]? = some x) (hx : Loc X.env.scope x) (he : PE X e te) (hs : swapsWith e (some (.Name x pos')) pos.line X.env = pure false := by rfl) (hf : X.fn x = true ∨ X.env.scope.names.lookup x = some .local := by first | exact .inl rfl | exact .inr rfl | assumption) :
    PS X (.Assign [.Name x pos'] e pos) (tAsg te (gName i)) := by
  intro pins s σ H D I h
  refine wpAny_Assign_Name (thn (he pins s σ H _ I h) fun v s1 ⟨y, H1, I1, r1, q1⟩ => ?_) hs
  exact store_ok I1 hN hi hx r1 (fun s2 I2 => ⟨_, H1, I2, q1⟩) hf
/-- a, b = x, y with plain local names: stored from the right; the pair itself is not tracked (the opening rows as in PyProof/Rows/TupAssign.lean:23) -/
def tPar (i j : Nat) (ta : TA) : TS := fun D σ H => ta σ H fun vs H1 => ∃ v w, vs = [v, w] ∧ D.nx ((σ.set i (some v)).set j (some w)) H1
theorem ps_par {i j : Nat} {x y : Str} {a b : Expr} {ta : TA} {px py pt : Pos} {kt k2 pt2} (hc : X.calm = true) (hN : X.N.Nodup) (hi : X.N[i]? = some x) (hj : X.N[j]? = some y) (hij : i ≠ j)
    (hx : X.env.scope.names.lookup x = some .local) (hy : X.env.scope.names.lookup y = some .local) (ha : PA X [a, b] ta)
    (hw : swappedStores [.Tuple [.Name x px, .Name y py] kt pt] (.Tuple [a, b] k2 pt2) X.env = pure (some [x, y]))
    (hs : swapsWithSole [.Tuple [.Name x px, .Name y py] kt pt] (.Tuple [a, b] k2 pt2) pos.line X.env = pure false := by rfl) :
    PS X (.Assign [.Tuple [.Name x px, .Name y py] kt pt] (.Tuple [a, b] k2 pt2) pos) (tPar i j ta) := by
  intro pins s σ H D I h
  rw [exec_Assign_arm]
  refine wpAny_bind (wpAny_standAt ?_)
  rw [hs]
  refine wpAny_bind (wpAny_pure ?_)
  rw [if_neg (by decide)]
  refine wpAny_bind (Tuple_ (thn (ha _ pins s σ H _ I h) fun us s1 ⟨vs, H1, I1, r1, q1⟩ => ?_))
  obtain ⟨v, w, e1, q1⟩ := q1
  subst e1
  obtain ⟨u1, u2, rfl, rv, rw'⟩ : ∃ u1 u2, us = [u1, u2] ∧ RelV v u1 ∧ RelV w u2 := by
    cases r1 with
    | cons p q =>
      cases q with
      | cons p' q' =>
        cases q'
        exact ⟨_, _, rfl, p, p'⟩
  refine wpAny_newObj_type ?_ (by show 2 ≤ sizeLine; decide)
  have I2 : Inv X pins σ H1 { s1 with heap := s1.heap.push { cls := .type "tuple", data := .seq [u1, u2].toArray } } := I1.kept (t' := s1.toks) fun b o e => Heap.get?_push_of_some _ e
  rw [hw]
  refine wpAny_bind (wpAny_pure ?_)
  show wpAny (model X.prog X.w) X.A (do rule "assign.swapped-stores"; let items ← unpackItems (.ref s1.heap.objs.size) 2 none; assignInOrder [fun v => bindName X.env y v, fun v => bindName X.env x v] items.reverse; pure Flow.next) _ _ _
  refine wpAny_bind (wpAny_rule (wpAny_bind (unpackItems_tuple (items := #[u1, u2]) (I.ok.hd hc) (IsTup.new s1.heap _) fun h' hx' => ?_)))
  have I3 := I2.kept (h' := h') (t' := s1.toks) fun b o e => hx' b o (Nat.ne_of_lt (Heap.lt_size e)) e
  show wpAny _ _ (assignInOrder [fun v => bindName X.env y v, fun v => bindName X.env x v] [u2, u1] >>= fun _ => pure Flow.next) _ _ _
  refine wpAny_bind (assignInOrder_cons (wpAny_bindName (store_ok I3 hN hj (.inl hy) rw' (fun s2 I4 => ?_) (.inr hy))))
  refine assignInOrder_cons (wpAny_bindName (store_ok I4 hN hi (.inl hx) rv (fun s3 I5 => assignInOrder_nil (wpAny_pure ?_)) (.inr hx)))
  rw [List.set_comm _ _ (Ne.symm hij)] at I5
  exact ⟨_, H1, I5, q1⟩
/-- name op= e -/
def tAug (i : Nat) (te : TE) (ti : TIp) : TS := fun D σ H => ∃ x, σ[i]? = some (some x) ∧ te σ H fun y H1 => ti x y H1 fun z H2 => D.nx (σ.set i (some z)) H2
theorem ps_aug {i : Nat} {x : Str} {e : Expr} {te : TE} {op : Operator} {ti : TIp} {pos' : Pos} (hN : X.N.Nodup) (hi : X.N[i]? = some x) (hx : Loc X.env.scope x) (he : PE X e te) (ho : PIp X op ti) (hf : X.fn x = true ∨ X.env.scope.names.lookup x = some .local := by first | exact .inl rfl | exact .inr rfl | assumption) :
    PS X (.AugAssign (.Name x pos') op e pos) (tAug i te ti) := by
  intro pins s σ H D I h
  obtain ⟨v, e1, h⟩ := h
  obtain ⟨m, hn, hl⟩ := I.loc
  have vis : Vis X.env.scope x := by rcases hx with k | k; exact .inl k; exact .inr (.inl k)
  obtain ⟨u, r, l⟩ := hl i x v hi e1 vis
  refine wpAny_AugAssign_Name ?_
  have go : wpAny (model X.prog X.w) X.A (eval e X.env) (fun w s₂ => wpAny (model X.prog X.w) X.A (inplaceOp op u w) (fun r s₃ => wpAny (model X.prog X.w) X.A (storeName X.env x r) (fun _ => SP X pins D .next) X.xe s₃) X.xe s₂) X.xe s := by
    refine thn (he pins s σ H _ I h) fun w s1 ⟨y, H1, I1, r1, q1⟩ => ?_
    refine thn (ho pins s1 σ H1 v y u w _ I1 r r1 q1) fun z s2 ⟨zv, H2, I2, r2, q2⟩ => ?_
    exact store_ok I2 hN hi hx r2 (fun s3 I3 => ⟨_, H2, I3, q2⟩) hf
  rcases l with ⟨hk, hm⟩ | ⟨hk, c, hc, hcell⟩
  · exact wpAny_loadName_local I.ok.kind hk hn hm go
  · rcases hk with hk | hk
    · exact wpAny_loadName_cell I.ok.kind hk hc hcell go
    · rcases hx with k | k
      · have : X.env.scope.names.lookup x = some .free := hk
        rw [k] at this; cases this
      · have : X.env.scope.names.lookup x = some .free := hk
        rw [k] at this; cases this
/-- o[i] op= e -/
def tAugS (to ti te : TE) (tget : V → V → Hp → VK → Prop) (tip : TIp) (tset : TSet) : TS := fun D σ H => to σ H fun o H1 => ti σ H1 fun i H2 => tget o i H2 fun x H3 => te σ H3 fun y H4 => tip x y H4 fun z H5 => tset o i z H5 fun H6 => D.nx σ H6
/-- o[i], by values -/
def PGet (X : Cx) (t : V → V → Hp → VK → Prop) : Prop :=
  ∀ (pins : List (Addr × Obj)) (s : Shared) (σ : St) (H : Hp) (o i : V) (ov iv : Value) (Q : VK), Inv X pins σ H s → RelV o ov → RelV i iv → t o i H Q →
    wpAny (model X.prog X.w) X.A (getItem ov iv) (EP X pins σ Q) X.xe s
theorem ps_augS {o i e : Expr} {to ti te : TE} {tget : V → V → Hp → VK → Prop} {tip : TIp} {tset : TSet} {op : Operator} {tpos : Pos} (ho : PE X o to) (hi : PE X i ti) (hg : PGet X tget) (he : PE X e te) (hp : PIp X op tip) (hs : PSet X tset)
    (ha : ∀ ov iv new, augStore i ov iv new = (do holding [new, ov, iv] (setItem ov iv new); release [new, ov, iv] []; pure .next) := by intros; rfl) : PS X (.AugAssign (.Subscript o i tpos) op e pos) (tAugS to ti te tget tip tset) := by
  intro pins s σ H D I h
  refine wpAny_AugAssign_SubscriptAny (thn (ho pins s σ H _ I h) fun ov s1 ⟨x1, H1, I1, r1, q1⟩ => ?_) ha
  refine thn (hi pins s1 σ H1 _ I1 q1) fun iv s2 ⟨x2, H2, I2, r2, q2⟩ => ?_
  refine thn (hg pins s2 σ H2 x1 x2 ov iv _ I2 r1 r2 q2) fun old s3 ⟨x3, H3, I3, r3, q3⟩ => ?_
  refine thn (he pins s3 σ H3 _ I3 q3) fun v s4 ⟨x4, H4, I4, r4, q4⟩ => ?_
  refine thn (hp pins s4 σ H4 x3 x4 old v _ I4 r3 r4 q4) fun new s5 ⟨x5, H5, I5, r5, q5⟩ => ?_
  exact thn (hs pins s5 σ H5 x1 x2 x5 ov iv new _ I5 r1 r2 r5 q5) fun _ s6 ⟨H6, I6, q6⟩ => ⟨σ, H6, I6, q6⟩
/-- ints -/
def ipI (f : Int → Int → Int) : TIp := fun x y H Q => ∃ i j, x = .int i ∧ y = .int j ∧ Q (.int (f i j)) H
theorem ip_add : PIp X .Add (ipI fun i j => i + j) := by
  intro pins s σ H x y v u Q I r1 r2 h
  obtain ⟨i, j, e1, e2, q⟩ := h
  subst e1; subst e2
  obtain ⟨t, rfl⟩ := r1
  obtain ⟨t', rfl⟩ := r2
  exact iadd_int ⟨.int _, H, I.tok _, ⟨_, rfl⟩, q⟩
theorem ip_sub : PIp X .Sub (ipI fun i j => i - j) := by
  intro pins s σ H x y v u Q I r1 r2 h
  obtain ⟨i, j, e1, e2, q⟩ := h
  subst e1; subst e2
  obtain ⟨t, rfl⟩ := r1
  obtain ⟨t', rfl⟩ := r2
  exact isub_int ⟨.int _, H, I.tok _, ⟨_, rfl⟩, q⟩
end

/-! ### while -/
section
variable {X : Cx} {pos : Pos}
/-- the invariant W with its measure -/
def tWhile (c : TT) (tb : TS) : TS := fun D σ H => ∃ W : Nat → St → Hp → Prop, (∃ m, W m σ H) ∧ ∀ m σ H, W m σ H →
  c σ H fun b H1 => if b = true then ∃ N : St → Hp → Prop, (∀ σ' H', N σ' H' → ∃ m', m' < m ∧ W m' σ' H') ∧ tb { D with nx := N, ct := N, bk := D.nx } σ H1 else D.nx σ H1
theorem ps_while {c : Expr} {body : List Stmt} {tc : TT} {tb : TS} (hp : PassesOwn (model X.prog X.w) X.A X.env X.xe) (hc : PT X c tc) (hb : PSs X body tb) : PS X (.While c body [] pos) (tWhile tc tb) := by
  intro pins s σ H D I h
  obtain ⟨W, ⟨m0, w0⟩, turn⟩ := h
  refine wpAny_While (codeAny_whileLoop (fun n s' => ∃ σ' H', Inv X pins σ' H' s' ∧ W n σ' H') ?_ m0 ⟨σ, H, I, w0⟩)
  rintro n s1 ⟨σ1, H1, I1, w1⟩
  refine wpAny_passesOwn hp (thn (hc pins s1 σ1 H1 _ I1 (turn n σ1 H1 w1)) fun b s2 ⟨H2, I2, q2⟩ => ?_)
  cases b with
  | true =>
    obtain ⟨N, hN, q2⟩ := q2
    rw [if_pos rfl]
    refine wpAny_passesOwn hp (thn (hb pins s2 σ1 H2 _ I2 q2) fun f s3 q3 => ?_)
    cases f with
    | next =>
      obtain ⟨σ3, H3, I3, n3⟩ := q3
      obtain ⟨m', hm, w3⟩ := hN σ3 H3 n3
      exact ⟨m', hm, σ3, H3, I3, w3⟩
    | cont =>
      obtain ⟨σ3, H3, I3, n3⟩ := q3
      obtain ⟨m', hm, w3⟩ := hN σ3 H3 n3
      exact ⟨m', hm, σ3, H3, I3, w3⟩
    | brk => exact q3
    | ret v => exact q3
  | false =>
    rw [if_neg Bool.false_ne_true]
    exact wpAny_execs_nil ⟨σ1, H2, I2, q2⟩
end

/-! ### what a loop or a comprehension walks -/
/-- at turn i: it yields x (the heap may grow), or it stops -/
structure It where
  go : Nat → Hp → Prop
  yld : Nat → Hp → V → Hp → Prop
  stop : Nat → Hp → Prop
/-- the iterator's own objects may turn: they are not the frame's, not pinned, younger than the entry (or a comprehension's own) -/
def FpOk (X : Cx) (pins : List (Addr × Obj)) (H : Hp) (b : Addr) : Prop :=
  H b = none ∧ b ≠ X.env.locals ∧ b ∉ X.fs ∧ (b ∈ X.ex ∨ X.s₀.heap.objs.size ≤ b) ∧ (∀ x c, X.env.cells.lookup x = some c → c ≠ b) ∧ ∀ p ∈ X.pn ++ pins, p.1 ≠ b
theorem Inv.fpOk {X : Cx} {pins : List (Addr × Obj)} {σ : St} {H H' : Hp} {s : Shared} {b : Addr} (I : Inv X pins σ H s) (hb : s.heap.objs.size ≤ b) (hn : H' b = none) : FpOk X pins H' b := by
  refine ⟨hn, Nat.ne_of_gt (Nat.lt_of_lt_of_le I.lt hb), I.nofs hb, .inr (Nat.le_trans I.sz hb), fun x c e z => ?_, fun p hp z => ?_⟩
  · obtain ⟨v, q⟩ := I.cell x c e
    exact absurd (Nat.lt_of_lt_of_le q.lt (by rw [z]; exact hb)) (Nat.lt_irrefl _)
  · exact absurd (Nat.lt_of_lt_of_le (Heap.lt_size (I.pin p hp).1) (by rw [z]; exact hb)) (Nat.lt_irrefl _)
structure Turn (P : Program) (w : World) (K : PySem.W.Frag) (tg : Expr) (J : It) (fp : List Addr) (it : Addr) (tn : Nat → Heap → Prop) : Prop where
  mem : it ∈ fp
  obj : ∀ i h, tn i h → ∀ b ∈ fp, ∃ o, h.get? b = some o ∧ ∀ v, o.data ≠ .cell v
  keep : ∀ i h h', tn i h → (∀ b ∈ fp, ∀ o, h.get? b = some o → h'.get? b = some o) → tn i h'
  item : ∀ (X : Cx), X.prog = P → X.w = w → X.K = K → X.calm = true → ∀ (i : Nat) (pins : List (Addr × Obj)) (s : Shared) (σ : St) (H : Hp) (E : Value → Shared → Prop), Inv X pins σ H s → (∀ b ∈ fp, FpOk X pins H b) → tn i s.heap → J.go i H →
    wpAny (model P w) X.A (pyNext (.ref it)) (fun r s1 => ∃ u, r = some u ∧
      wpAny (model P w) X.A (letOwnedTupleGo tg (.ref it) u) (fun _ s2 => ∃ x H', Inv X pins σ H' s2 ∧ RelV x u ∧ J.yld i H x H' ∧ tn (i + 1) s2.heap ∧ ∀ b ∈ fp, H' b = none) E s1) E s
  done : ∀ (X : Cx), X.prog = P → X.w = w → X.K = K → X.calm = true → ∀ (i : Nat) (pins : List (Addr × Obj)) (s : Shared) (σ : St) (H : Hp) (E : Value → Shared → Prop), Inv X pins σ H s → (∀ b ∈ fp, FpOk X pins H b) → tn i s.heap → J.stop i H →
    wpAny (model P w) X.A (pyNext (.ref it)) (fun r s1 => r = none ∧ Inv X pins σ H s1) E s
  self : ∀ (A : Around) (i : Nat) (s : Shared) (Q : Value → Shared → Prop) (E : Value → Shared → Prop), tn i s.heap → Q (.ref it) s → wpAny (model P w) A (pyIter (.ref it)) Q E s
abbrev TI := St → Hp → (It → Hp → Prop) → Prop
/-- an iterator has come -/
def PIE (X : Cx) (pins : List (Addr × Obj)) (σ : St) (tg : Expr) (R : It → Hp → Prop) (itv : Value) (s2 : Shared) : Prop :=
  ∃ (it : Addr) (fp : List Addr) (tn : Nat → Heap → Prop) (J : It) (H' : Hp), itv = .ref it ∧ Inv X pins σ H' s2 ∧ Turn X.prog X.w X.K tg J fp it tn ∧ tn 0 s2.heap ∧ (∀ b ∈ fp, FpOk X pins H' b) ∧ R J H'
def PI (X : Cx) (tg iter : Expr) (wi : TI) : Prop :=
  ∀ (pins : List (Addr × Obj)) (s : Shared) (σ : St) (H : Hp) (R : It → Hp → Prop), Inv X pins σ H s → wi σ H R →
    wpAny (model X.prog X.w) X.A (eval iter X.env) (fun v s1 => wpAny (model X.prog X.w) X.A (pyIter v) (PIE X pins σ tg R) X.xe s1) X.xe s

/-- the step ahead of the store is nothing for an iterator that keeps no tuple -/
theorem go_of {M : Model} {A : Around} {E : Value → Shared → Prop} {s : Shared} {tg : Expr} {it : Addr} {u : Value} {o : Obj} {n : String} {vs : Array Value} {Q : Unit → Shared → Prop} (ho : s.heap.get? it = some o) (hc : o.cls = .type n) (hd : o.data = .fields vs)
    (hn : ["enumerate", "zip", "dict_itemiterator", "dict_reverseitemiterator", "odict_iterator", "itertools.zip_longest", "itertools.pairwise"].contains n = false) (hQ : Q () s) : wpAny M A (letOwnedTupleGo tg (.ref it) u) Q E s := by
  unfold letOwnedTupleGo
  cases tg <;> first
    | exact wpAny_pure hQ
    | (cases u <;> first
        | exact wpAny_pure hQ
        | (refine wpAny_bind (wpAny_load ho ?_)
           rw [hc, hd]
           show wpAny M A (if (["enumerate", "zip", "dict_itemiterator", "dict_reverseitemiterator", "odict_iterator", "itertools.zip_longest", "itertools.pairwise"].contains n && vs[0]? == some (rawInt _)) = true then _ else _) Q E s
           rw [if_neg (by intro h; rw [hn, Bool.false_and] at h; cases h)]
           exact wpAny_pure hQ))

/-- the list at a, as it stands at each turn (a loop may append to it) -/
def Itl (K : PySem.W.Frag) (a : Addr) : It :=
  ⟨fun i H => ∃ xs x, SqL K H a xs ∧ xs[i]? = some x, fun i H x H' => H' = H ∧ ∀ xs, SqL K H a xs → xs[i]? = some x, fun i H => ∃ xs, SqL K H a xs ∧ xs.length ≤ i⟩
def Itt (K : PySem.W.Frag) (a : Addr) : It :=
  ⟨fun i H => ∃ xs x, SqT K H a xs ∧ xs[i]? = some x, fun i H x H' => H' = H ∧ ∀ xs, SqT K H a xs → xs[i]? = some x, fun i H => ∃ xs, SqT K H a xs ∧ xs.length ≤ i⟩
/-- lo, lo + 1, .. (n of them) -/
def Itr (lo : Int) (n : Nat) : It := ⟨fun i _ => i < n, fun i H x H' => H' = H ∧ x = .int (lo + i), fun i _ => n ≤ i⟩
theorem turn_list {P : Program} {w : World} {K : PySem.W.Frag} {tg : Expr} (a it : Addr) : Turn P w K tg (Itl K a) [it] it (fun i h => h.IsListIter it a i) where
  mem := by simp
  obj := fun i h st b hb => by
    have e : b = it := by simpa using hb
    subst e
    obtain ⟨o, e, c, d⟩ := st
    exact ⟨o, e, fun v z => by rw [d] at z; cases z⟩
  keep := fun i h h' st k => st.at fun o e => k it (by simp) o e
  item := by
    intro X hP hw hK hc i pins s σ H E I hf st hg
    subst hP hw hK
    obtain ⟨xs, x, hq, hx⟩ := hg
    obtain ⟨its, rv, p, hz⟩ := I.list hq
    obtain ⟨u, hu, ru⟩ := rv.get hx
    obtain ⟨f0, f1, f2, f3, f4, f5⟩ := hf it (by simp)
    refine wpAny_pyNext_list_item st p.isList (x := u) (by simpa using hu) fun h' st' sb => ?_
    have I1 : Inv X pins σ H { s with heap := h' } := I.turned (t' := s.toks) (fun b o hb e => (sb.2 b hb).trans e) f0 f1 f3 f4 f5
    obtain ⟨o, e, c, d⟩ := id st'
    exact ⟨u, rfl, go_of (s := { s with heap := h' }) e c d (by decide) ⟨x, H, I1, ru, ⟨rfl, fun ys hy => by rw [I.list_inj hy hq]; exact hx⟩, st', fun b hb => (hf b hb).1⟩⟩
  done := by
    intro X hP hw hK hc i pins s σ H E I hf st hg
    subst hP hw hK
    obtain ⟨xs, hq, hx⟩ := hg
    obtain ⟨its, rv, p, hz⟩ := I.list hq
    obtain ⟨f0, f1, f2, f3, f4, f5⟩ := hf it (by simp)
    have hl := rv.length
    exact wpAny_pyNext_list_end (I.ok.hd hc) st p.isList (by simp; omega) fun h' eb => ⟨rfl, I.turned (t' := s.toks) (fun b o hb e => eb b o hb e) f0 f1 f3 f4 f5⟩
  self := fun _ _ _ _ _ st h => wpAny_pyIter_listiter st h
theorem turn_tuple {P : Program} {w : World} {K : PySem.W.Frag} {tg : Expr} (a it : Addr) : Turn P w K tg (Itt K a) [it] it (fun i h => h.IsTupleIter it a i) where
  mem := by simp
  obj := fun i h st b hb => by
    have e : b = it := by simpa using hb
    subst e
    obtain ⟨o, e, c, d⟩ := st
    exact ⟨o, e, fun v z => by rw [d] at z; cases z⟩
  keep := fun i h h' st k => st.at fun o e => k it (by simp) o e
  item := by
    intro X hP hw hK hc i pins s σ H E I hf st hg
    subst hP hw hK
    obtain ⟨xs, x, hq, hx⟩ := hg
    obtain ⟨its, rv, p, hz⟩ := I.tuple hq
    obtain ⟨u, hu, ru⟩ := rv.get hx
    obtain ⟨f0, f1, f2, f3, f4, f5⟩ := hf it (by simp)
    refine wpAny_pyNext_tuple_item st (show s.heap.IsTuple a its.toArray from p) (x := u) (by simpa using hu) fun h' st' sb => ?_
    have I1 : Inv X pins σ H { s with heap := h' } := I.turned (t' := s.toks) (fun b o hb e => (sb.2 b hb).trans e) f0 f1 f3 f4 f5
    obtain ⟨o, e, c, d⟩ := id st'
    exact ⟨u, rfl, go_of (s := { s with heap := h' }) e c d (by decide) ⟨x, H, I1, ru, ⟨rfl, fun ys hy => by rw [I.tuple_inj hy hq]; exact hx⟩, st', fun b hb => (hf b hb).1⟩⟩
  done := by
    intro X hP hw hK hc i pins s σ H E I hf st hg
    subst hP hw hK
    obtain ⟨xs, hq, hx⟩ := hg
    obtain ⟨its, rv, p, hz⟩ := I.tuple hq
    obtain ⟨f0, f1, f2, f3, f4, f5⟩ := hf it (by simp)
    have hl := rv.length
    exact wpAny_pyNext_tuple_end (I.ok.hd hc) st (show s.heap.IsTuple a its.toArray from p) (by simp; omega) fun h' eb => ⟨rfl, I.turned (t' := s.toks) (fun b o hb e => eb b o hb e) f0 f1 f3 f4 f5⟩
  self := fun _ _ _ _ _ st h => wpAny_pyIter_tupleiter st h
theorem turn_range {P : Program} {w : World} {K : PySem.W.Frag} {tg : Expr} (it : Addr) (lo : Int) (n : Nat) : Turn P w K tg (Itr lo n) [it] it (fun i h => IsRangeIter h it (lo + (i : Nat) * 1) ((n : Int) - (i : Nat)) 1) where
  mem := by simp
  obj := fun i h st b hb => by
    have e : b = it := by simpa using hb
    subst e
    exact ⟨_, st, fun v z => by
      have z' : Data.fields _ = Data.cell v := z
      cases z'⟩
  keep := fun i h h' st k => k it (by simp) _ st
  item := by
    intro X hP hw hK hc i pins s σ H E I hf st hg
    subst hP hw hK
    obtain ⟨f0, f1, f2, f3, f4, f5⟩ := hf it (by simp)
    have W := Walks.range (prog := X.prog) (w := X.w) (I.ok.hd hc) it lo 1 n
    refine W.item i s _ _ hg st fun v h' tk hv st' kk => ?_
    obtain ⟨t, rfl⟩ := hv
    have I1 : Inv X pins σ H { s with heap := h', toks := tk } := I.turned (fun b o hb e => kk b o (by simpa using hb) e) f0 f1 f3 f4 f5
    refine ⟨_, rfl, go_of (s := { s with heap := h', toks := tk }) (n := "range_iterator") st' rfl rfl (by decide) ⟨.int (lo + i), H, I1, ⟨t, ?_⟩, ⟨rfl, rfl⟩, st', fun b hb => (hf b hb).1⟩⟩
    rw [Int.mul_one]
  done := by
    intro X hP hw hK hc i pins s σ H E I hf st hg
    subst hP hw hK
    obtain ⟨f0, f1, f2, f3, f4, f5⟩ := hf it (by simp)
    exact wpAny_pyNext_range_end (I.ok.hd hc) st (by have : n ≤ i := hg; omega) fun h' eb => ⟨rfl, I.turned (t' := s.toks) (fun b o hb e => eb b o hb e) f0 f1 f3 f4 f5⟩
  self := fun _ _ _ _ _ st h => wpAny_pyIter_rangeiter st h
end L2

namespace L2
open PySem PySem.Spec PyProof.Rows
section
variable {X : Cx} {tg : Expr}
def iList (K : PySem.W.Frag) (tl : TE) : TI := fun σ H R => tl σ H fun x H1 => ∃ a, x = .ref a ∧ (∃ xs, SqL K H1 a xs) ∧ R (Itl K a) H1
def iTup (K : PySem.W.Frag) (tl : TE) : TI := fun σ H R => tl σ H fun x H1 => ∃ a, x = .ref a ∧ (∃ xs, SqT K H1 a xs) ∧ R (Itt K a) H1
theorem pi_list {l : Expr} {tl : TE} (hl : PE X l tl) : PI X tg l (iList X.K tl) := by
  intro pins s σ H R I h
  refine thn (hl pins s σ H _ I h) fun v s1 ⟨x, H1, I1, r1, q1⟩ => ?_
  obtain ⟨a, e, ⟨xs, hq⟩, q⟩ := q1
  subst e
  cases r1
  obtain ⟨its, rv, p, hz⟩ := I1.list hq
  refine wpAny_pyIter_list p.isList ?_
  refine ⟨s1.heap.objs.size, [s1.heap.objs.size], _, _, H1, rfl, I1.kept (t' := s1.toks) fun b o e => Heap.get?_push_of_some _ e, turn_list a _, ⟨_, Heap.get?_push_size _ rfl, rfl, rfl⟩, fun b hb => ?_, q⟩
  have e : b = s1.heap.objs.size := by simpa using hb
  subst e
  exact I1.fpOk (Nat.le_refl _) (I1.hok.fresh (Nat.le_refl _))
theorem pi_tup {l : Expr} {tl : TE} (hl : PE X l tl) : PI X tg l (iTup X.K tl) := by
  intro pins s σ H R I h
  refine thn (hl pins s σ H _ I h) fun v s1 ⟨x, H1, I1, r1, q1⟩ => ?_
  obtain ⟨a, e, ⟨xs, hq⟩, q⟩ := q1
  subst e
  cases r1
  obtain ⟨its, rv, p, hz⟩ := I1.tuple hq
  refine wpAny_pyIter_tuple (show s1.heap.IsTuple a its.toArray from p) ?_
  refine ⟨s1.heap.objs.size, [s1.heap.objs.size], _, _, H1, rfl, I1.kept (t' := s1.toks) fun b o e => Heap.get?_push_of_some _ e, turn_tuple a _, ⟨_, Heap.get?_push_size _ rfl, rfl, rfl⟩, fun b hb => ?_, q⟩
  have e : b = s1.heap.objs.size := by simpa using hb
  subst e
  exact I1.fpOk (Nat.le_refl _) (I1.hok.fresh (Nat.le_refl _))
/-- a range object just made, walked -/
theorem range_it {pins : List (Addr × Obj)} {σ : St} {H : Hp} {s : Shared} {R : It → Hp → Prop} {E : Value → Shared → Prop} {lo hi : Int} {t u v : Tok} {tk : Nat} (I : Inv X pins σ H s) (h1 : -(2 ^ 62) ≤ lo) (h2 : lo < 2 ^ 62) (h3 : -(2 ^ 62) ≤ hi) (h4 : hi < 2 ^ 62)
    (q : R (Itr lo (hi - lo).toNat) H) : wpAny (model X.prog X.w) X.A (pyIter (.ref s.heap.objs.size)) (PIE X pins σ tg R) E { s with heap := s.heap.push { cls := .type "range", data := .fields #[.int lo t, .int hi u, .int 1 v] }, toks := tk } := by
  refine wpAny_pyIter_range (IsRange.new ..) (small_one h1 h2 h3 h4) ?_
  have I1 : Inv X pins σ H { s with heap := s.heap.push { cls := .type "range", data := .fields #[.int lo t, .int hi u, .int 1 v] }, toks := tk } := I.kept fun b o e => Heap.get?_push_of_some _ e
  refine ⟨(s.heap.push { cls := .type "range", data := .fields #[.int lo t, .int hi u, .int 1 v] }).objs.size, [(s.heap.push { cls := .type "range", data := .fields #[.int lo t, .int hi u, .int 1 v] }).objs.size], _, _, H, rfl,
    I1.kept (t' := tk) fun b o e => Heap.get?_push_of_some _ e, turn_range _ lo (hi - lo).toNat, ?_, fun b hb => ?_, q⟩
  · have e1 : lo + ((0 : Nat) : Int) * 1 = lo := by simp
    have e2 : (((hi - lo).toNat : Nat) : Int) - ((0 : Nat) : Int) = Builtin.Range.rangeSize lo hi 1 := by rw [rangeSize_one]; split <;> omega
    show IsRangeIter _ _ (lo + ((0 : Nat) : Int) * 1) ((((hi - lo).toNat : Nat) : Int) - ((0 : Nat) : Int)) 1
    rw [e1, e2]
    exact Heap.get?_push_size _ rfl
  · have e : b = (s.heap.push { cls := .type "range", data := .fields #[.int lo t, .int hi u, .int 1 v] }).objs.size := by simpa using hb
    subst e
    exact I1.fpOk (Nat.le_refl _) (I1.hok.fresh (Nat.le_refl _))
def iRng1 (ta : TA) : TI := fun σ H R => ta σ H fun vs H1 => ∃ j : Int, vs = [.int j] ∧ -(2 ^ 62) ≤ j ∧ j < 2 ^ 62 ∧ R (Itr 0 j.toNat) H1
def iRng2 (ta : TA) : TI := fun σ H R => ta σ H fun vs H1 => ∃ i j : Int, vs = [.int i, .int j] ∧ (-(2 ^ 62) ≤ i ∧ i < 2 ^ 62 ∧ -(2 ^ 62) ≤ j ∧ j < 2 ^ 62) ∧ R (Itr i (j - i).toNat) H1
theorem pi_range1 {a : Expr} {ta : TA} {p pos : Pos} (hg : Gl X "range") (hm : X.mg "range" = none) (ha : PA X [a] ta) (hs : starEach [a] X.env = [(false, eval a X.env)] := by rfl) : PI X tg (.Call (.Name "range" p) [a] [] pos) (iRng1 ta) := by
  intro pins s σ H R I h
  refine Call_ (ld_blt I hg hm boot_range (PyProof.Rows.callWith_type1 (thn (ha pos pins s σ H _ I h) fun us s1 ⟨vs, H1, I1, r1, q1⟩ => ?_) hs rfl))
  obtain ⟨j, e, q1, q2, q⟩ := q1
  subst e
  cases r1 with
  | cons r rr =>
    cases rr
    obtain ⟨t, rfl⟩ := r
    exact call_range_1 (range_it I1 (by omega) (by omega) q1 q2 (by simpa using q))
theorem pi_range2 {a b : Expr} {ta : TA} {p pos : Pos} (hg : Gl X "range") (hm : X.mg "range" = none) (ha : PA X [a, b] ta) (hs : starEach [a, b] X.env = [(false, eval a X.env), (false, eval b X.env)] := by rfl) (hs2 : starEach [b] X.env = [(false, eval b X.env)] := by rfl) :
    PI X tg (.Call (.Name "range" p) [a, b] [] pos) (iRng2 ta) := by
  intro pins s σ H R I h
  refine Call_ (ld_blt I hg hm boot_range (PyProof.Rows.callWith_type1 (thn (ha pos pins s σ H _ I h) fun us s1 ⟨vs, H1, I1, r1, q1⟩ => ?_) (by rw [hs, hs2]) (by rw [hs2]; rfl)))
  obtain ⟨i, j, e, ⟨q1, q2, q3, q4⟩, q⟩ := q1
  subst e
  cases r1 with
  | cons r rr =>
    cases rr with
    | cons r' rr =>
      cases rr
      obtain ⟨t, rfl⟩ := r
      obtain ⟨t', rfl⟩ := r'
      exact call_range_2 (range_it I1 q1 q2 q3 q4 q)

/-! ### for -/
/-- W: the invariant by the turn and a measure; N: what the body is to reach -/
def tFor (wi : TI) (g : TG) (tb : TS) : TS := fun D σ H => wi σ H fun J H1 => ∃ W : Nat → Nat → St → Hp → Prop, (∃ m, W 0 m σ H1) ∧ ∀ i m σ H, W i m σ H →
  (J.stop i H ∧ D.nx σ H) ∨ (J.go i H ∧ ∃ N : St → Hp → Prop, (∀ σ' H', N σ' H' → ∃ m', m' < m ∧ W (i + 1) m' σ' H') ∧ ∀ x H', J.yld i H x H' → g x σ H' fun σ2 H2 => tb { D with nx := N, ct := N, bk := D.nx } σ2 H2)
/-- the records at fp as they stand -/
def pinsAt (fp : List Addr) (h : Heap) : List (Addr × Obj) := fp.filterMap fun b => (h.get? b).map fun o => (b, o)
theorem mem_pinsAt {fp : List Addr} {h : Heap} {b : Addr} {o : Obj} (hb : b ∈ fp) (e : h.get? b = some o) : (b, o) ∈ pinsAt fp h := List.mem_filterMap.mpr ⟨b, hb, by rw [e]; rfl⟩
theorem of_pinsAt {fp : List Addr} {h : Heap} {p : Addr × Obj} (hp : p ∈ pinsAt fp h) : p.1 ∈ fp ∧ h.get? p.1 = some p.2 := by
  obtain ⟨b, hb, e⟩ := List.mem_filterMap.mp hp
  cases q : h.get? b with
  | none => rw [q] at e; cases e
  | some o =>
    rw [q] at e
    have e' : (b, o) = p := Option.some.inj e
    subst e'
    exact ⟨hb, q⟩
theorem Inv.pinned {pins : List (Addr × Obj)} {σ : St} {H : Hp} {s : Shared} {fp : List Addr} (I : Inv X pins σ H s) (hf : ∀ b ∈ fp, FpOk X pins H b) (ho : ∀ b ∈ fp, ∃ o, s.heap.get? b = some o ∧ ∀ v, o.data ≠ .cell v) : Inv X (pins ++ pinsAt fp s.heap) σ H s :=
  I.pins_of fun p hp => (List.mem_append.mp hp).elim (fun z => I.pin p (List.mem_append_right _ z)) fun z => by
    obtain ⟨hb, e⟩ := of_pinsAt z
    obtain ⟨f0, f1, f2, _⟩ := hf p.1 hb
    obtain ⟨o, e', d⟩ := ho p.1 hb
    rw [e] at e'; cases e'
    exact ⟨e, f0, f1, f2, d⟩
theorem Inv.unpinned {pins pl : List (Addr × Obj)} {σ : St} {H : Hp} {s : Shared} (I : Inv X (pins ++ pl) σ H s) : Inv X pins σ H s := I.pins_of fun p hp => I.pin p (List.mem_append_right _ (List.mem_append_left _ hp))
theorem ps_for {iter : Expr} {body : List Stmt} {wi : TI} {g : TG} {tb : TS} {pos : Pos} (hp : PassesOwn (model X.prog X.w) X.A X.env X.xe) (hc : X.calm = true) (hi : PI X tg iter wi) (hg : PG X tg g) (hb : PSs X body tb)
    (hs : ∀ x, foldedSetIterable iter X.env x = pure x := by intro _; rfl) : PS X (.For tg iter body [] pos) (tFor wi g tb) := by
  intro pins s σ H D I h
  refine wpAny_For (thn (hi pins s σ H _ I h) fun v s1 h1 => thn h1 fun itv s2 h2 => ?_) hs
  obtain ⟨it, fp, tn, J, H2, e, I2, T, st2, f2, W, ⟨m0, w0⟩, turn⟩ := h2
  subst e
  -- what stays true of the iterator's objects through the loop
  have stat : ∀ {H' : Hp}, (∀ b ∈ fp, H' b = none) → ∀ b ∈ fp, FpOk X pins H' b := fun hn b hb => ⟨hn b hb, (f2 b hb).2⟩
  refine codeAny_forLoop_any (fun n s' => ∃ i σ' H', Inv X pins σ' H' s' ∧ tn i s'.heap ∧ (∀ b ∈ fp, H' b = none) ∧ W i n σ' H') ?_ m0 ⟨0, σ, H2, I2, st2, fun b hb => (f2 b hb).1, w0⟩
  rintro n s3 ⟨i, σ3, H3, I3, st3, fr3, w3⟩
  rcases turn i n σ3 H3 w3 with ⟨stop, qn⟩ | ⟨go, N, hN, step⟩
  · refine wpAny_passesOwn hp (thn (T.done X rfl rfl rfl hc i pins s3 σ3 H3 X.xe I3 (stat fr3) st3 stop) fun r s4 ⟨hr, I4⟩ => ?_)
    subst hr
    exact wpAny_execs_nil ⟨σ3, H3, I4, qn⟩
  · refine wpAny_passesOwn hp (thn (T.item X rfl rfl rfl hc i pins s3 σ3 H3 X.xe I3 (stat fr3) st3 go) fun r s4 ⟨u, hr, h4⟩ => ?_)
    subst hr
    refine wpAny_passesOwn hp (thn h4 fun _ s5 ⟨x, H5, I5, r5, y5, st5, fr5⟩ => ?_)
    have I5' := I5.pinned (stat fr5) (T.obj _ _ st5)
    refine wpAny_passesOwn hp (thn (hg _ s5 σ3 H5 x u _ I5' r5 (step x H5 y5)) fun _ s6 ⟨σ6, H6, I6, q6⟩ => ?_)
    refine wpAny_passesOwn hp (thn (hb _ s6 σ6 H6 _ I6 q6) fun f s7 q7 => ?_)
    have again : ∀ {σ7 : St} {H7 : Hp}, Inv X (pins ++ pinsAt fp s5.heap) σ7 H7 s7 → N σ7 H7 → ∃ m, m < n ∧ ∃ i σ' H', Inv X pins σ' H' s7 ∧ tn i s7.heap ∧ (∀ b ∈ fp, H' b = none) ∧ W i m σ' H' := fun {σ7 H7} I7 n7 => by
      obtain ⟨m', hm, w7⟩ := hN σ7 H7 n7
      refine ⟨m', hm, i + 1, σ7, H7, I7.unpinned, T.keep _ _ _ st5 fun b hb o e => (I7.pin (b, o) (List.mem_append_right _ (List.mem_append_right _ (mem_pinsAt hb e)))).1, fun b hb => ?_, w7⟩
      obtain ⟨o, e, d⟩ := T.obj _ _ st5 b hb
      exact (I7.pin (b, o) (List.mem_append_right _ (List.mem_append_right _ (mem_pinsAt hb e)))).2.1
    cases f with
    | next => obtain ⟨σ7, H7, I7, n7⟩ := q7; exact again I7 n7
    | cont => obtain ⟨σ7, H7, I7, n7⟩ := q7; exact again I7 n7
    | brk => obtain ⟨σ7, H7, I7, q7⟩ := q7; exact ⟨σ7, H7, I7.unpinned, q7⟩
    | ret v => obtain ⟨x7, σ7, H7, I7, r7, q7⟩ := q7; exact ⟨x7, σ7, H7, I7.unpinned, r7, q7⟩
end

/-! ### the forms one uses -/
/-- over a list that the body leaves as it is -/
theorem for_list {K : PySem.W.Frag} {a : Addr} {xs : List V} {g : TG} {tb : TS} {D : Ends} {σ : St} {H : Hp} (Pv : Nat → St → Hp → Prop) (h0 : Pv 0 σ H) (hl : ∀ i σ H, i ≤ xs.length → Pv i σ H → SqL K H a xs)
    (hs : ∀ i x σ H, xs[i]? = some x → Pv i σ H → g x σ H fun σ2 H2 => tb { D with nx := Pv (i + 1), ct := Pv (i + 1), bk := D.nx } σ2 H2) (hd : ∀ σ H, Pv xs.length σ H → D.nx σ H) :
    ∃ W : Nat → Nat → St → Hp → Prop, (∃ m, W 0 m σ H) ∧ ∀ i m σ H, W i m σ H →
      ((Itl K a).stop i H ∧ D.nx σ H) ∨ ((Itl K a).go i H ∧ ∃ N : St → Hp → Prop, (∀ σ' H', N σ' H' → ∃ m', m' < m ∧ W (i + 1) m' σ' H') ∧ ∀ x H', (Itl K a).yld i H x H' → g x σ H' fun σ2 H2 => tb { D with nx := N, ct := N, bk := D.nx } σ2 H2) := by
  refine ⟨fun i m σ H => m = xs.length - i ∧ i ≤ xs.length ∧ Pv i σ H, ⟨xs.length, by simp, Nat.zero_le _, h0⟩, ?_⟩
  rintro i m σ H ⟨rfl, hi, p⟩
  have q := hl i σ H hi p
  by_cases hlt : i < xs.length
  · refine .inr ⟨⟨xs, xs[i], q, by simp [hlt]⟩, Pv (i + 1), fun σ' H' p' => ⟨xs.length - (i + 1), by omega, rfl, hlt, p'⟩, fun x H' y => ?_⟩
    obtain ⟨e, y⟩ := y
    subst e
    exact hs i x σ _ (y xs q) p
  · have e : i = xs.length := by omega
    subst e
    exact .inl ⟨⟨xs, q, Nat.le_refl _⟩, hd σ H p⟩
theorem for_tup {K : PySem.W.Frag} {a : Addr} {xs : List V} {g : TG} {tb : TS} {D : Ends} {σ : St} {H : Hp} (Pv : Nat → St → Hp → Prop) (h0 : Pv 0 σ H) (hl : ∀ i σ H, i ≤ xs.length → Pv i σ H → SqT K H a xs)
    (hs : ∀ i x σ H, xs[i]? = some x → Pv i σ H → g x σ H fun σ2 H2 => tb { D with nx := Pv (i + 1), ct := Pv (i + 1), bk := D.nx } σ2 H2) (hd : ∀ σ H, Pv xs.length σ H → D.nx σ H) :
    ∃ W : Nat → Nat → St → Hp → Prop, (∃ m, W 0 m σ H) ∧ ∀ i m σ H, W i m σ H →
      ((Itt K a).stop i H ∧ D.nx σ H) ∨ ((Itt K a).go i H ∧ ∃ N : St → Hp → Prop, (∀ σ' H', N σ' H' → ∃ m', m' < m ∧ W (i + 1) m' σ' H') ∧ ∀ x H', (Itt K a).yld i H x H' → g x σ H' fun σ2 H2 => tb { D with nx := N, ct := N, bk := D.nx } σ2 H2) := by
  refine ⟨fun i m σ H => m = xs.length - i ∧ i ≤ xs.length ∧ Pv i σ H, ⟨xs.length, by simp, Nat.zero_le _, h0⟩, ?_⟩
  rintro i m σ H ⟨rfl, hi, p⟩
  have q := hl i σ H hi p
  by_cases hlt : i < xs.length
  · refine .inr ⟨⟨xs, xs[i], q, by simp [hlt]⟩, Pv (i + 1), fun σ' H' p' => ⟨xs.length - (i + 1), by omega, rfl, hlt, p'⟩, fun x H' y => ?_⟩
    obtain ⟨e, y⟩ := y
    subst e
    exact hs i x σ _ (y xs q) p
  · have e : i = xs.length := by omega
    subst e
    exact .inl ⟨⟨xs, q, Nat.le_refl _⟩, hd σ H p⟩
theorem for_range {lo : Int} {n : Nat} {g : TG} {tb : TS} {D : Ends} {σ : St} {H : Hp} (Pv : Nat → St → Hp → Prop) (h0 : Pv 0 σ H)
    (hs : ∀ i σ H, i < n → Pv i σ H → g (.int (lo + i)) σ H fun σ2 H2 => tb { D with nx := Pv (i + 1), ct := Pv (i + 1), bk := D.nx } σ2 H2) (hd : ∀ σ H, Pv n σ H → D.nx σ H) :
    ∃ W : Nat → Nat → St → Hp → Prop, (∃ m, W 0 m σ H) ∧ ∀ i m σ H, W i m σ H →
      ((Itr lo n).stop i H ∧ D.nx σ H) ∨ ((Itr lo n).go i H ∧ ∃ N : St → Hp → Prop, (∀ σ' H', N σ' H' → ∃ m', m' < m ∧ W (i + 1) m' σ' H') ∧ ∀ x H', (Itr lo n).yld i H x H' → g x σ H' fun σ2 H2 => tb { D with nx := N, ct := N, bk := D.nx } σ2 H2) := by
  refine ⟨fun i m σ H => m = n - i ∧ i ≤ n ∧ Pv i σ H, ⟨n, by simp, Nat.zero_le _, h0⟩, ?_⟩
  rintro i m σ H ⟨rfl, hi, p⟩
  by_cases hlt : i < n
  · refine .inr ⟨hlt, Pv (i + 1), fun σ' H' p' => ⟨n - (i + 1), by omega, rfl, hlt, p'⟩, fun x H' y => ?_⟩
    obtain ⟨e, y⟩ := y
    subst e y
    exact hs i σ _ hlt p
  · have e : i = n := by omega
    subst e
    exact .inl ⟨Nat.le_refl _, hd σ H p⟩
/-- while, by a word and a measure of the state -/
theorem while_by {c : TT} {tb : TS} {D : Ends} {σ : St} {H : Hp} (Pv : St → Hp → Prop) (μ : St → Hp → Nat) (h0 : Pv σ H)
    (hs : ∀ σ H, Pv σ H → c σ H fun b H1 => if b = true then tb { D with nx := fun σ' H' => Pv σ' H' ∧ μ σ' H' < μ σ H, ct := fun σ' H' => Pv σ' H' ∧ μ σ' H' < μ σ H, bk := D.nx } σ H1 else D.nx σ H1)
    (mono : ∀ σ H Q Q', (∀ b H1, Q b H1 → Q' b H1) → c σ H Q → c σ H Q') : tWhile c tb D σ H := by
  refine ⟨fun m σ H => m = μ σ H ∧ Pv σ H, ⟨_, rfl, h0⟩, ?_⟩
  rintro m σ H ⟨rfl, p⟩
  refine mono σ H _ _ (fun b H1 q => ?_) (hs σ H p)
  cases b with
  | true => exact ⟨_, fun σ' H' ⟨p', l⟩ => ⟨_, l, rfl, p'⟩, q⟩
  | false => exact q
end L2

namespace L2
open PySem PySem.Spec PyProof.Rows

abbrev R2 := V → V → Hp → VK → Prop
/-- a two-place operation on values: f is binaryOp op, inplaceOp op or compareOp op -/
def OpR (X : Cx) (f : Value → Value → Sem Value) (r : R2) : Prop :=
  ∀ (pins : List (Addr × Obj)) (s : Shared) (σ : St) (H : Hp) (x y : V) (v u : Value) (Q : VK), Inv X pins σ H s → RelV x v → RelV y u → r x y H Q →
    wpAny (model X.prog X.w) X.A (f v u) (EP X pins σ Q) X.xe s
/-- a one-place operation -/
def UnR (X : Cx) (f : Value → Sem Value) (r : V → Hp → VK → Prop) : Prop :=
  ∀ (pins : List (Addr × Obj)) (s : Shared) (σ : St) (H : Hp) (x : V) (v : Value) (Q : VK), Inv X pins σ H s → RelV x v → r x H Q →
    wpAny (model X.prog X.w) X.A (f v) (EP X pins σ Q) X.xe s
/-- a call of a value that is known (a builtin, a type) with values -/
def CallR (X : Cx) (f : Value) (r : List V → Hp → VK → Prop) : Prop :=
  ∀ (pins : List (Addr × Obj)) (s : Shared) (σ : St) (H : Hp) (xs : List V) (us : List Value) (Q : VK), Inv X pins σ H s → Vals xs us → r xs H Q →
    wpAny (model X.prog X.w) X.A (call f us) (EP X pins σ Q) X.xe s
/-- a value's truth -/
def TruR (X : Cx) (r : V → Hp → (Bool → Hp → Prop) → Prop) : Prop :=
  ∀ (pins : List (Addr × Obj)) (s : Shared) (σ : St) (H : Hp) (x : V) (v : Value) (Q : Bool → Hp → Prop), Inv X pins σ H s → RelV x v → r x H Q →
    wpAny (model X.prog X.w) X.A (truthy v) (TP X pins σ Q) X.xe s

def tOp (r : R2) (ta tb : TE) : TE := fun σ H Q => ta σ H fun x H1 => tb σ H1 fun y H2 => r x y H2 Q
def tUn (r : V → Hp → VK → Prop) (ta : TE) : TE := fun σ H Q => ta σ H fun x H1 => r x H1 Q
/-- ints in, under C, and a value out -/
def rI (C : Int → Int → Prop) (g : Int → Int → V) : R2 := fun x y H Q => ∃ i j, x = .int i ∧ y = .int j ∧ C i j ∧ Q (g i j) H
def rI0 (g : Int → Int → V) : R2 := fun x y H Q => ∃ i j, x = .int i ∧ y = .int j ∧ Q (g i j) H
def rU (g : Int → V) : V → Hp → VK → Prop := fun x H Q => ∃ i, x = .int i ∧ Q (g i) H

section
variable {X : Cx} {a b c : Expr} {ta tb tc : TE} {pos : Pos}

theorem binT (ha : PE X a ta) (hb : PE X b tb) {pins : List (Addr × Obj)} {s : Shared} {σ : St} {H : Hp} {R : V → V → Hp → Prop} (I : Inv X pins σ H s)
    (h : ta σ H fun x H1 => tb σ H1 fun y H2 => R x y H2) {Q : Value → Shared → Prop} {f : Value → Value → Sem Value}
    (hf : ∀ v u s2 x y H2, Inv X pins σ H2 s2 → RelV x v → RelV y u → R x y H2 → wpAny (model X.prog X.w) X.A (f v u) Q X.xe s2) :
    wpAny (model X.prog X.w) X.A (eval a X.env) (fun v s₁ => wpAny (model X.prog X.w) X.A (eval b X.env) (fun u s₂ => wpAny (model X.prog X.w) X.A (f v u) Q X.xe s₂) X.xe s₁) X.xe s := by
  refine thn (ha pins s σ H _ I h) fun v s1 ⟨x, H1, I1, r1, q1⟩ => ?_
  refine thn (hb pins s1 σ H1 _ I1 q1) fun u s2 ⟨y, H2, I2, r2, q2⟩ => ?_
  exact hf v u s2 x y H2 I2 r1 r2 q2

theorem pe_op {op : Operator} {r : R2} (ho : OpR X (binaryOp op) r) (ha : PE X a ta) (hb : PE X b tb) : PE X (.BinOp a op b pos) (tOp r ta tb) := by
  intro pins s σ H Q I h
  exact wpAny_BinOp (binT ha hb I h fun v u s2 x y H2 I2 rx ry q => ho pins s2 σ H2 x y v u Q I2 rx ry q)
theorem pe_un {op : UnaryOp} {r : V → Hp → VK → Prop} (ho : UnR X (unaryOp op) r) (ha : PE X a ta) : PE X (.UnaryOp op a pos) (tUn r ta) := by
  intro pins s σ H Q I h
  exact UnaryOp_ (thn (ha pins s σ H _ I h) fun v s1 ⟨x, H1, I1, r1, q1⟩ => ho pins s1 σ H1 x v Q I1 r1 q1)
/-- a op= e at a name: the name's slot i -/
theorem augR {op : Operator} {r : R2} (ho : OpR X (inplaceOp op) r) {pins : List (Addr × Obj)} {s : Shared} {σ : St} {H : Hp} {x y : V} {v u : Value} {Q : VK} (I : Inv X pins σ H s)
    (rx : RelV x v) (ry : RelV y u) (q : r x y H Q) : wpAny (model X.prog X.w) X.A (inplaceOp op v u) (EP X pins σ Q) X.xe s := ho pins s σ H x y v u Q I rx ry q

/-! ### ints -/
theorem opI {f : Value → Value → Sem Value} {C : Int → Int → Prop} {g : Int → Int → Int}
    (rule : ∀ (i j : Int) (t u : Tok) (s : Shared) (Q : Value → Shared → Prop) (E : Value → Shared → Prop), C i j → Q (.int (g i j) s.toks) { s with toks := s.toks + 1 } → wpAny (model X.prog X.w) X.A (f (.int i t) (.int j u)) Q E s) :
    OpR X f (rI C fun i j => .int (g i j)) := by
  intro pins s σ H x y v u Q I rx ry h
  obtain ⟨i, j, rfl, rfl, hc, q⟩ := h
  obtain ⟨t, rfl⟩ := rx
  obtain ⟨t', rfl⟩ := ry
  exact rule i j t t' s _ _ hc ⟨.int (g i j), H, I.tok _, ⟨_, rfl⟩, q⟩
theorem opI0 {f : Value → Value → Sem Value} {g : Int → Int → Int}
    (rule : ∀ (i j : Int) (t u : Tok) (s : Shared) (Q : Value → Shared → Prop) (E : Value → Shared → Prop), Q (.int (g i j) s.toks) { s with toks := s.toks + 1 } → wpAny (model X.prog X.w) X.A (f (.int i t) (.int j u)) Q E s) :
    OpR X f (rI0 fun i j => .int (g i j)) := by
  intro pins s σ H x y v u Q I rx ry h
  obtain ⟨i, j, rfl, rfl, q⟩ := h
  obtain ⟨t, rfl⟩ := rx
  obtain ⟨t', rfl⟩ := ry
  exact rule i j t t' s _ _ ⟨.int (g i j), H, I.tok _, ⟨_, rfl⟩, q⟩
theorem opB0 {f : Value → Value → Sem Value} {g : Int → Int → Bool}
    (rule : ∀ (i j : Int) (t u : Tok) (s : Shared) (Q : Value → Shared → Prop) (E : Value → Shared → Prop), Q (.bool (g i j)) s → wpAny (model X.prog X.w) X.A (f (.int i t) (.int j u)) Q E s) :
    OpR X f (rI0 fun i j => .bl (g i j)) := by
  intro pins s σ H x y v u Q I rx ry h
  obtain ⟨i, j, rfl, rfl, q⟩ := h
  obtain ⟨t, rfl⟩ := rx
  obtain ⟨t', rfl⟩ := ry
  exact rule i j t t' s _ _ ⟨.bl (g i j), H, I, rfl, q⟩

def CDiv (i j : Int) : Prop := 0 < j ∧ j < 1073741824
def CDivN (i j : Int) : Prop := j ≠ 0 ∧ j.natAbs < 1073741824
def CPow (i j : Int) : Prop := 0 ≤ j ∧ j ≤ 1000000 ∧ i.natAbs < 2 ^ 64
def CMul (i j : Int) : Prop := (-(2 ^ 64) < i ∧ i < 2 ^ 64) ∨ (-(2 ^ 64) < j ∧ j < 2 ^ 64)
theorem CMul.ok {i j : Int} (h : CMul i j) : IntMulOk i j := by
  rcases h with ⟨h1, h2⟩ | ⟨h1, h2⟩
  · exact .of_left (intBits_le_64 h1 h2)
  · exact .of_right (intBits_le_64 h1 h2)
theorem two_pow_nn (k : Nat) : (0 : Int) ≤ 2 ^ k := by
  rw [two_pow_cast]
  exact Int.natCast_nonneg _

theorem op_add : OpR X (binaryOp .Add) (rI0 fun i j => .int (i + j)) := opI0 fun _ _ _ _ _ _ _ q => add_int q
theorem op_sub : OpR X (binaryOp .Sub) (rI0 fun i j => .int (i - j)) := opI0 fun _ _ _ _ _ _ _ q => sub_int q
theorem op_mul : OpR X (binaryOp .Mult) (rI CMul fun i j => .int (i * j)) := opI fun _ _ _ _ _ _ _ hc q => mul_int q hc.ok
/-- // by a positive divisor -/
theorem op_fdiv : OpR X (binaryOp .FloorDiv) (rI CDiv fun i j => .int (i / j)) := opI fun i j _ _ _ _ _ hc q => by
  have h1 : (0 : Int) < j := hc.1
  have h2 : j < 1073741824 := hc.2
  exact floordiv_int (by omega) (by rw [Int.fdiv_eq_ediv_of_nonneg i (by omega)]; exact q) (.inl (PyProof.noPylong_small (by omega)))
theorem op_fdivN : OpR X (binaryOp .FloorDiv) (rI CDivN fun i j => .int (i.fdiv j)) := opI fun _ _ _ _ _ _ _ hc q => floordiv_int hc.1 q (.inl (PyProof.noPylong_small hc.2))
/-- % by a positive divisor of any size -/
theorem op_mod : OpR X (binaryOp .Mod) (rI (fun _ j => 0 < j) fun i j => .int (i % j)) := opI fun i j _ _ _ _ _ hc q => by
  have h1 : (0 : Int) < j := hc
  exact mod_int' (by omega) (by rw [Int.fmod_eq_emod_of_nonneg i (by omega)]; exact q)
theorem op_modN : OpR X (binaryOp .Mod) (rI (fun _ j => j ≠ 0) fun i j => .int (i.fmod j)) := opI fun _ _ _ _ _ _ _ hc q => mod_int' hc q
theorem op_pow : OpR X (binaryOp .Pow) (rI CPow fun i j => .int (i ^ j.toNat)) := opI fun _ _ _ _ _ _ _ hc q => pow_int_small hc.1 hc.2.1 hc.2.2 q
theorem op_shl : OpR X (binaryOp .LShift) (rI CPow fun i j => .int (i * 2 ^ j.toNat)) := opI fun _ _ _ _ _ _ _ hc q => lshift_int_small hc.1 hc.2.1 hc.2.2 q
theorem op_shr : OpR X (binaryOp .RShift) (rI (fun _ j => 0 ≤ j) fun i j => .int (i / 2 ^ j.toNat)) := opI fun i j _ _ _ _ _ hc q =>
  rshift_int hc (by rw [Int.fdiv_eq_ediv_of_nonneg i (two_pow_nn _)]; exact q)
theorem op_and : OpR X (binaryOp .BitAnd) (rI0 fun i j => .int (Builtin.bitAnd i j)) := opI0 fun _ _ _ _ _ _ _ q => and_int q
theorem op_or : OpR X (binaryOp .BitOr) (rI0 fun i j => .int (Builtin.bitOr i j)) := opI0 fun _ _ _ _ _ _ _ q => or_int q
theorem op_xor : OpR X (binaryOp .BitXor) (rI0 fun i j => .int (Builtin.bitXor i j)) := opI0 fun _ _ _ _ _ _ _ q => xor_int q

theorem iop_add : OpR X (inplaceOp .Add) (rI0 fun i j => .int (i + j)) := opI0 fun _ _ _ _ _ _ _ q => iadd_int q
theorem iop_sub : OpR X (inplaceOp .Sub) (rI0 fun i j => .int (i - j)) := opI0 fun _ _ _ _ _ _ _ q => isub_int q
theorem iop_mul : OpR X (inplaceOp .Mult) (rI CMul fun i j => .int (i * j)) := opI fun _ _ _ _ _ _ _ hc q => imul_int q hc.ok
theorem iop_fdiv : OpR X (inplaceOp .FloorDiv) (rI CDiv fun i j => .int (i / j)) := opI fun i j _ _ _ _ _ hc q => by
  have h1 : (0 : Int) < j := hc.1
  have h2 : j < 1073741824 := hc.2
  exact ifloordiv_int (by omega) (by rw [Int.fdiv_eq_ediv_of_nonneg i (by omega)]; exact q) (.inl (PyProof.noPylong_small (by omega)))
theorem iop_mod : OpR X (inplaceOp .Mod) (rI (fun _ j => 0 < j) fun i j => .int (i % j)) := opI fun i j _ _ _ _ _ hc q => by
  have h1 : (0 : Int) < j := hc
  exact imod_int (by omega) (by rw [Int.fmod_eq_emod_of_nonneg i (by omega)]; exact q)
theorem iop_shl : OpR X (inplaceOp .LShift) (rI CPow fun i j => .int (i * 2 ^ j.toNat)) := opI fun _ _ _ _ _ _ _ hc q => ilshift_int_small hc.1 hc.2.1 hc.2.2 q
theorem iop_shr : OpR X (inplaceOp .RShift) (rI (fun _ j => 0 ≤ j) fun i j => .int (i / 2 ^ j.toNat)) := opI fun i j _ _ _ _ _ hc q =>
  irshift_int hc (by rw [Int.fdiv_eq_ediv_of_nonneg i (two_pow_nn _)]; exact q)
theorem iop_and : OpR X (inplaceOp .BitAnd) (rI0 fun i j => .int (Builtin.bitAnd i j)) := opI0 fun _ _ _ _ _ _ _ q => iand_int q
theorem iop_or : OpR X (inplaceOp .BitOr) (rI0 fun i j => .int (Builtin.bitOr i j)) := opI0 fun _ _ _ _ _ _ _ q => ior_int q
theorem iop_xor : OpR X (inplaceOp .BitXor) (rI0 fun i j => .int (Builtin.bitXor i j)) := opI0 fun _ _ _ _ _ _ _ q => ixor_int q

theorem unI {f : Value → Sem Value} {g : Int → Int}
    (rule : ∀ (i : Int) (t : Tok) (s : Shared) (Q : Value → Shared → Prop) (E : Value → Shared → Prop), Q (.int (g i) s.toks) { s with toks := s.toks + 1 } → wpAny (model X.prog X.w) X.A (f (.int i t)) Q E s) :
    UnR X f (rU fun i => .int (g i)) := by
  intro pins s σ H x v Q I rx h
  obtain ⟨i, rfl, q⟩ := h
  obtain ⟨t, rfl⟩ := rx
  exact rule i t s _ _ ⟨.int (g i), H, I.tok _, ⟨_, rfl⟩, q⟩
theorem un_neg : UnR X (unaryOp .USub) (rU fun i => .int (-i)) := unI fun _ _ _ _ _ q => neg_int q
theorem un_inv : UnR X (unaryOp .Invert) (rU fun i => .int (Builtin.bitNot i)) := unI fun _ _ _ _ _ q => invert_int q

/-! ### bools among ints: n += (a < b) -/
theorem op_add_ib : OpR X (binaryOp .Add) (fun x y H Q => ∃ i k, x = .int i ∧ y = .bl k ∧ Q (.int (i + b2i k)) H) := by
  intro pins s σ H x y v u Q I rx ry h
  obtain ⟨i, k, rfl, rfl, q⟩ := h
  obtain ⟨t, rfl⟩ := rx
  cases ry
  exact add_int_bool ⟨.int (i + b2i k), H, I.tok _, ⟨_, rfl⟩, q⟩
end

/-! ### comparisons -/
/-- the scalars that == tells apart as data does -/
def scal : V → V → Bool
  | .non, .non => true | .non, .int _ => true | .int _, .non => true | .non, .bl _ => true | .bl _, .non => true | .non, .str _ => true | .str _, .non => true
  | .int _, .int _ => true | .bl _, .bl _ => true | .str _, .str _ => true | .byt _, .byt _ => true
  | .int _, .str _ => true | .str _, .int _ => true | .bl _, .str _ => true | .str _, .bl _ => true
  | _, _ => false
def rEq : R2 := fun x y H Q => scal x y = true ∧ Q (.bl (decide (x = y))) H
def rNe : R2 := fun x y H Q => scal x y = true ∧ Q (.bl (!decide (x = y))) H

theorem dec_int {i j : Int} : decide (V.int i = V.int j) = (i == j) := by
  rw [Bool.eq_iff_iff]
  simp
theorem dec_bl {i j : Bool} : decide (V.bl i = V.bl j) = (i == j) := by
  rw [Bool.eq_iff_iff]
  simp
theorem dec_str {i j : Str} : decide (V.str i = V.str j) = (i == j) := by
  rw [Bool.eq_iff_iff]
  simp
theorem dec_byt {i j : Array UInt8} : decide (V.byt i = V.byt j) = (i.toList == j.toList) := by
  rw [Bool.eq_iff_iff]
  cases i
  cases j
  simp

section
variable {X : Cx} {a b c : Expr} {ta tb tc : TE} {pos : Pos}
theorem fin_bl {pins : List (Addr × Obj)} {σ : St} {H : Hp} {s : Shared} {Q : VK} {k k' : Bool} (I : Inv X pins σ H s) (q : Q (.bl k) H) (e : k = k') : EP X pins σ Q (.bool k') s := by
  subst e
  exact ⟨.bl k, H, I, rfl, q⟩
theorem op_eq : OpR X (compareOp .Eq) rEq := by
  intro pins s σ H x y v u Q I rx ry h
  obtain ⟨hs, q⟩ := h
  cases x with
  | non =>
    cases rx
    cases y with
    | non => cases ry; exact PySem.EqNone.eq_none_none (fin_bl I q (by simp))
    | bl j => cases ry; exact PySem.EqNone.eq_none_bool (fin_bl I q (by simp))
    | int j => obtain ⟨t', rfl⟩ := ry; exact PySem.EqNone.eq_none_int (fin_bl I q (by simp))
    | str j => obtain ⟨t', rfl⟩ := ry; exact PySem.EqNone.eq_none_str (fin_bl I q (by simp))
    | _ => exact absurd (show false = true from hs) Bool.false_ne_true
  | bl i =>
    cases rx
    cases y with
    | non => cases ry; exact PySem.EqNone.eq_bool_none (fin_bl I q (by simp))
    | bl j => cases ry; exact eq_bool (fin_bl I q dec_bl)
    | str j => obtain ⟨t', rfl⟩ := ry; exact PySem.EqMixed.eq_bool_str (fin_bl I q (by simp))
    | _ => exact absurd (show false = true from hs) Bool.false_ne_true
  | int i =>
    obtain ⟨t, rfl⟩ := rx
    cases y with
    | non => cases ry; exact PySem.EqNone.eq_int_none (fin_bl I q (by simp))
    | int j => obtain ⟨t', rfl⟩ := ry; exact eq_int (fin_bl I q dec_int)
    | str j => obtain ⟨t', rfl⟩ := ry; exact PySem.EqMixed.eq_int_str (fin_bl I q (by simp))
    | _ => exact absurd (show false = true from hs) Bool.false_ne_true
  | str i =>
    obtain ⟨t, rfl⟩ := rx
    cases y with
    | non => cases ry; exact PySem.EqNone.eq_str_none (fin_bl I q (by simp))
    | bl j => cases ry; exact PySem.EqMixed.eq_str_bool (fin_bl I q (by simp))
    | int j => obtain ⟨t', rfl⟩ := ry; exact PySem.EqMixed.eq_str_int (fin_bl I q (by simp))
    | str j => obtain ⟨t', rfl⟩ := ry; exact eq_str (fin_bl I q dec_str)
    | _ => exact absurd (show false = true from hs) Bool.false_ne_true
  | byt i =>
    obtain ⟨t, rfl⟩ := rx
    cases y with
    | byt j => obtain ⟨t', rfl⟩ := ry; exact PySem.W.eq_bytes (fin_bl I q dec_byt)
    | _ => exact absurd (show false = true from hs) Bool.false_ne_true
  | _ => cases y <;> exact absurd (show false = true from hs) Bool.false_ne_true
theorem op_ne : OpR X (compareOp .NotEq) rNe := by
  intro pins s σ H x y v u Q I rx ry h
  obtain ⟨hs, q⟩ := h
  cases x with
  | non =>
    cases rx
    cases y with
    | non => cases ry; exact PySem.EqNone.ne_none_none (fin_bl I q (by simp))
    | bl j => cases ry; exact PySem.EqNone.ne_none_bool (fin_bl I q (by simp))
    | int j => obtain ⟨t', rfl⟩ := ry; exact PySem.EqNone.ne_none_int (fin_bl I q (by simp))
    | str j => obtain ⟨t', rfl⟩ := ry; exact PySem.EqNone.ne_none_str (fin_bl I q (by simp))
    | _ => exact absurd (show false = true from hs) Bool.false_ne_true
  | bl i =>
    cases rx
    cases y with
    | non => cases ry; exact PySem.EqNone.ne_bool_none (fin_bl I q (by simp))
    | bl j => cases ry; exact ne_bool (fin_bl I q (congrArg not dec_bl))
    | str j => obtain ⟨t', rfl⟩ := ry; exact PySem.EqMixed.ne_bool_str (fin_bl I q (by simp))
    | _ => exact absurd (show false = true from hs) Bool.false_ne_true
  | int i =>
    obtain ⟨t, rfl⟩ := rx
    cases y with
    | non => cases ry; exact PySem.EqNone.ne_int_none (fin_bl I q (by simp))
    | int j => obtain ⟨t', rfl⟩ := ry; exact ne_int (fin_bl I q (congrArg not dec_int))
    | str j => obtain ⟨t', rfl⟩ := ry; exact PySem.EqMixed.ne_int_str (fin_bl I q (by simp))
    | _ => exact absurd (show false = true from hs) Bool.false_ne_true
  | str i =>
    obtain ⟨t, rfl⟩ := rx
    cases y with
    | non => cases ry; exact PySem.EqNone.ne_str_none (fin_bl I q (by simp))
    | bl j => cases ry; exact PySem.EqMixed.ne_str_bool (fin_bl I q (by simp))
    | int j => obtain ⟨t', rfl⟩ := ry; exact PySem.EqMixed.ne_str_int (fin_bl I q (by simp))
    | str j => obtain ⟨t', rfl⟩ := ry; exact ne_str (fin_bl I q (congrArg not dec_str))
    | _ => exact absurd (show false = true from hs) Bool.false_ne_true
  | byt i =>
    obtain ⟨t, rfl⟩ := rx
    cases y with
    | byt j => obtain ⟨t', rfl⟩ := ry; exact PySem.W.ne_bytes (fin_bl I q (congrArg not dec_byt))
    | _ => exact absurd (show false = true from hs) Bool.false_ne_true
  | _ => cases y <;> exact absurd (show false = true from hs) Bool.false_ne_true

theorem op_lt : OpR X (compareOp .Lt) (rI0 fun i j => .bl (decide (i < j))) := opB0 fun _ _ _ _ _ _ _ q => lt_int q
theorem op_le : OpR X (compareOp .LtE) (rI0 fun i j => .bl (decide (i ≤ j))) := opB0 fun _ _ _ _ _ _ _ q => le_int q
theorem op_gt : OpR X (compareOp .Gt) (rI0 fun i j => .bl (decide (j < i))) := opB0 fun _ _ _ _ _ _ _ q => gt_int q
theorem op_ge : OpR X (compareOp .GtE) (rI0 fun i j => .bl (decide (j ≤ i))) := opB0 fun _ _ _ _ _ _ _ q => ge_int q
theorem op_lt_str : OpR X (compareOp .Lt) (fun x y H Q => ∃ i j, x = .str i ∧ y = .str j ∧ Q (.bl (decide (i.cps.toList < j.cps.toList))) H) := by
  intro pins s σ H x y v u Q I rx ry h
  obtain ⟨i, j, rfl, rfl, q⟩ := h
  obtain ⟨t, rfl⟩ := rx
  obtain ⟨t', rfl⟩ := ry
  exact lt_str (fin_bl I q rfl)
/-- the one string within the other -/
theorem op_in_str : OpR X (compareOp .In) (fun x y H Q => ∃ i j, x = .str i ∧ y = .str j ∧ Q (.bl (!(Builtin.Str.occurrences j i 0 j.length 1).isEmpty)) H) := by
  intro pins s σ H x y v u Q I rx ry h
  obtain ⟨i, j, rfl, rfl, q⟩ := h
  obtain ⟨t, rfl⟩ := rx
  obtain ⟨t', rfl⟩ := ry
  exact in_str (fin_bl I q rfl)

/-- is None, is not None: the right side a value none -/
theorem op_isN : OpR X (compareOp .Is) (fun x y H Q => y = .non ∧ Q (.bl (decide (x = .non))) H) := by
  intro pins s σ H x y v u Q I rx ry h
  obtain ⟨rfl, q⟩ := h
  cases ry
  refine is_none_gen (fin_bl I q ?_)
  cases x <;> first
    | (cases rx; rfl)
    | (obtain ⟨t, rfl⟩ := rx; rfl)
theorem op_notN : OpR X (compareOp .IsNot) (fun x y H Q => y = .non ∧ Q (.bl (!decide (x = .non))) H) := by
  intro pins s σ H x y v u Q I rx ry h
  obtain ⟨rfl, q⟩ := h
  cases ry
  refine isnot_none_gen (fin_bl I q ?_)
  cases x <;> first
    | (cases rx; rfl)
    | (obtain ⟨t, rfl⟩ := rx; rfl)

theorem op_notin_str : OpR X (compareOp .NotIn) (fun x y H Q => ∃ i j, x = .str i ∧ y = .str j ∧ Q (.bl (!(!(Builtin.Str.occurrences j i 0 j.length 1).isEmpty))) H) := by
  intro pins s σ H x y v u Q I rx ry h
  obtain ⟨i, j, rfl, rfl, q⟩ := h
  obtain ⟨t, rfl⟩ := rx
  obtain ⟨t', rfl⟩ := ry
  exact notIn_str (fin_bl I q rfl)
/-- is, is not of two objects that are tracked lists or instances -/
def isObj : HO → Bool
  | .lst _ => true
  | .ins _ _ _ => true
  | _ => false
theorem obj_there {pins : List (Addr × Obj)} {s : Shared} {σ : St} {H : Hp} {a : Addr} {o : HO} (I : Inv X pins σ H s) (h : H a = some o) (p : isObj o = true) : ∃ ob, s.heap.get? a = some ob ∧ ob.cls ≠ .type "tuple" := by
  cases o with
  | lst xs =>
    obtain ⟨_, its, n, _, e⟩ : xs.length ≤ sizeLine ∧ ∃ (its : List Value) (n : Nat), Vals xs its ∧ s.heap.get? a = some { cls := .type "list", data := .seq its.toArray n } := I.hok a _ h
    exact ⟨_, e, (by show Value.type "list" ≠ .type "tuple"; decide +kernel)⟩
  | ins C dx fs =>
    have x := I.hok a _ h
    obtain ⟨_, _, _, e, _⟩ := x
    exact ⟨_, e, (by show Value.ref C ≠ .type "tuple"; exact fun z => by cases z)⟩
  | _ => exact absurd (show false = true from p) Bool.false_ne_true
theorem op_is_ref : OpR X (compareOp .Is) (fun x y H Q => ∃ a b oa ob, x = .ref a ∧ y = .ref b ∧ H a = some oa ∧ isObj oa = true ∧ H b = some ob ∧ isObj ob = true ∧ Q (.bl (decide (a = b))) H) := by
  intro pins s σ H x y v u Q I rx ry h
  obtain ⟨a, b, oa, ob, rfl, rfl, ha, pa, hb, pb, q⟩ := h
  cases rx
  cases ry
  obtain ⟨o1, e1, n1⟩ := obj_there I ha pa
  obtain ⟨o2, e2, _⟩ := obj_there I hb pb
  by_cases z : a = b
  · subst z
    exact wpAny_is_ref_self (fin_bl I q (by simp))
  · exact wpAny_is_ref_other z e1 e2 n1 (fin_bl I q (by simp [z]))
theorem op_isnot_ref : OpR X (compareOp .IsNot) (fun x y H Q => ∃ a b oa ob, x = .ref a ∧ y = .ref b ∧ H a = some oa ∧ isObj oa = true ∧ H b = some ob ∧ isObj ob = true ∧ Q (.bl (!decide (a = b))) H) := by
  intro pins s σ H x y v u Q I rx ry h
  obtain ⟨a, b, oa, ob, rfl, rfl, ha, pa, hb, pb, q⟩ := h
  cases rx
  cases ry
  obtain ⟨o1, e1, n1⟩ := obj_there I ha pa
  obtain ⟨o2, e2, _⟩ := obj_there I hb pb
  by_cases z : a = b
  · subst z
    exact wpAny_isNot_ref_self (fin_bl I q (by simp))
  · exact wpAny_isNot_ref_other z e1 e2 n1 (fin_bl I q (by simp [z]))

/-- two rules for one operation: by cases -/
theorem OpR.or {f : Value → Value → Sem Value} {r r' : R2} (h : OpR X f r) (h' : OpR X f r') : OpR X f (fun x y H Q => r x y H Q ∨ r' x y H Q) := by
  intro pins s σ H x y v u Q I rx ry q
  rcases q with q | q
  · exact h pins s σ H x y v u Q I rx ry q
  · exact h' pins s σ H x y v u Q I rx ry q

theorem nomark (b : Expr) {op : CmpOp} (h : op ≠ .In := by decide) (h2 : op ≠ .NotIn := by decide) : behindInMarks op b = false := by
  have e1 : (op == CmpOp.In) = false := by cases op <;> first | rfl | exact absurd rfl h
  have e2 : (op == CmpOp.NotIn) = false := by cases op <;> first | rfl | exact absurd rfl h2
  cases b <;> simp [behindInMarks, e1, e2]
/-- a comparison as a value; hm: nomark b, or (for in, not in) by with_unfolding_all rfl -/
theorem pe_cmpR {op : CmpOp} {r : R2} (ho : OpR X (compareOp op) r) (ha : PE X a ta) (hb : PE X b tb) (hm : behindInMarks op b = false) : PE X (.Compare a [op] [b] pos) (tOp r ta tb) := by
  intro pins s σ H Q I h
  exact wpAny_Compare1 (binT ha hb I h fun v u s2 x y H2 I2 rx ry q => ho pins s2 σ H2 x y v u Q I2 rx ry q) hm
/-- a reading of a value as a test -/
def tTest (t : TE) : TT := fun σ H Q => t σ H fun x H' => ∃ k, x = .bl k ∧ Q k H'
theorem pt_cmpR {op : CmpOp} {r : R2} (ho : OpR X (compareOp op) r) (ha : PE X a ta) (hb : PE X b tb) (hm : behindInMarks op b = false) : PT X (.Compare a [op] [b] pos) (tTest (tOp r ta tb)) := by
  intro pins s σ H Q I h
  refine wpAny_isTrue_Compare1 (thn (ha pins s σ H _ I h) fun v s1 ⟨x, H1, I1, r1, q1⟩ => thn (hb pins s1 σ H1 _ I1 q1) fun u s2 ⟨y, H2, I2, r2, q2⟩ =>
    thn (ho pins s2 σ H2 x y v u _ I2 r1 r2 q2) fun c s3 ⟨z, H3, I3, r3, k, e, q3⟩ => ?_) hm
  subst e
  cases r3
  exact wpAny_truthy_bool ⟨H3, I3, q3⟩
/-- a op1 b op2 c -/
def tChain (r r' : R2) (ta tb tc : TE) : TE := fun σ H Q => ta σ H fun x H1 => tb σ H1 fun y H2 => r x y H2 fun z H3 => ∃ k, z = .bl k ∧
  (if k = true then tc σ H3 fun w' H4 => r' y w' H4 Q else Q (.bl false) H3)
theorem pe_chain {op op' : CmpOp} {r r' : R2} (ho : OpR X (compareOp op) r) (ho' : OpR X (compareOp op') r') (ha : PE X a ta) (hb : PE X b tb) (hc : PE X c tc)
    (hm : lastMarks [op, op'] [b, c] = false := by with_unfolding_all rfl) : PE X (.Compare a [op, op'] [b, c] pos) (tChain r r' ta tb tc) := by
  intro pins s σ H Q I h
  refine Compare_chain (thn (ha pins s σ H _ I h) fun v s1 ⟨x, H1, I1, r1, q1⟩ => chain_link (thn (hb pins s1 σ H1 _ I1 q1) fun u s2 ⟨y, H2, I2, r2, q2⟩ =>
    thn (ho pins s2 σ H2 x y v u _ I2 r1 r2 q2) fun d s3 ⟨z, H3, I3, r3, k, e, q3⟩ => ?_)) hm
  subst e
  cases r3
  refine wpAny_truthy_bool ?_
  cases k with
  | false => exact ite_ff ⟨.bl false, H3, I3, rfl, q3⟩
  | true => exact ite_tt (chain_last (thn (hc pins s3 σ H3 _ I3 q3) fun w' s4 ⟨z', H4, I4, r4, q4⟩ => ho' pins s4 σ H4 y z' u w' Q I4 r2 r4 q4))
theorem pt_chain {op op' : CmpOp} {r r' : R2} (ho : OpR X (compareOp op) r) (ho' : OpR X (compareOp op') r') (ha : PE X a ta) (hb : PE X b tb) (hc : PE X c tc)
    (hm : lastMarks [op, op'] [b, c] = false := by with_unfolding_all rfl) : PT X (.Compare a [op, op'] [b, c] pos) (tTest (tChain r r' ta tb tc)) := by
  intro pins s σ H Q I h
  refine isTrue_chain (thn (ha pins s σ H _ I h) fun v s1 ⟨x, H1, I1, r1, q1⟩ => test_link (thn (hb pins s1 σ H1 _ I1 q1) fun u s2 ⟨y, H2, I2, r2, q2⟩ =>
    thn (ho pins s2 σ H2 x y v u _ I2 r1 r2 q2) fun d s3 ⟨z, H3, I3, r3, k, e, q3⟩ => ?_)) hm
  subst e
  cases r3
  refine wpAny_truthy_bool ?_
  cases k with
  | false =>
    obtain ⟨k', e', q'⟩ := q3
    cases e'
    exact ite_ff ⟨H3, I3, q'⟩
  | true =>
    refine ite_tt (test_last (thn (hc pins s3 σ H3 _ I3 q3) fun w' s4 ⟨z', H4, I4, r4, q4⟩ => thn (ho' pins s4 σ H4 y z' u w' _ I4 r2 r4 q4) fun d' s5 ⟨z2, H5, I5, r5, k2, e2, q5⟩ => ?_))
    subst e2
    cases r5
    exact wpAny_truthy_bool ⟨H5, I5, q5⟩

/-! ### truth -/
/-- a value's truth by the abstract heap -/
def TruV (K : PySem.W.Frag) (x : V) (H : Hp) (k : Bool) : Prop :=
  match x with
  | .non => k = false
  | .bl b => k = b
  | .int i => k = (i != 0)
  | .str y => y.length ≤ sizeLine ∧ k = ((y.length : Int) != 0)
  | .byt y => y.size ≤ sizeLine ∧ k = ((y.size : Int) != 0)
  | .ref p => (∃ xs, SqL K H p xs ∧ k = !xs.isEmpty) ∨ (∃ xs, SqT K H p xs ∧ k = !xs.isEmpty) ∨ ∃ kvs, H p = some (.dK kvs) ∧ k = !kvs.isEmpty
  | _ => False
theorem isEmpty_kv {κ : Type} {kvs : List (κ × V)} {vs : List (κ × Value)} (r : KV kvs vs) : (!vs.isEmpty) = !kvs.isEmpty := by
  cases r <;> rfl
theorem isEmpty_of {xs : List V} {its : List Value} (r : Vals xs its) : (!its.toArray.isEmpty) = !xs.isEmpty := by
  cases r <;> simp
theorem line63 : (sizeLine : Nat) < 2 ^ 63 := by rw [sizeLine_eq]; decide
theorem tru_ok : TruR X (fun x H Q => ∃ k, TruV X.K x H k ∧ Q k H) := by
  intro pins s σ H x v Q I rx h
  obtain ⟨k, e, q⟩ := h
  have hl := line63
  have hs : sizeLine = 16777216 := sizeLine_eq
  cases x with
  | non =>
    cases rx
    have e' : k = false := e
    subst e'
    exact truthy_none ⟨H, I, q⟩
  | bl b =>
    cases rx
    have e' : k = b := e
    subst e'
    exact wpAny_truthy_bool ⟨H, I, q⟩
  | int i =>
    obtain ⟨t, rfl⟩ := rx
    have e' : k = (i != 0) := e
    subst e'
    exact PySem.P.truthy_int ⟨H, I, q⟩
  | str y =>
    obtain ⟨t, rfl⟩ := rx
    obtain ⟨hy, e'⟩ : y.length ≤ sizeLine ∧ k = ((y.length : Int) != 0) := e
    subst e'
    exact PySem.P.truthy_str (by omega) ⟨H, I.tok _, q⟩
  | byt y =>
    obtain ⟨t, rfl⟩ := rx
    obtain ⟨hy, e'⟩ : y.size ≤ sizeLine ∧ k = ((y.size : Int) != 0) := e
    subst e'
    exact PySem.W.truthy_bytes (by omega) ⟨H, I.tok _, q⟩
  | ref p =>
    cases rx
    have e' : (∃ xs, SqL X.K H p xs ∧ k = !xs.isEmpty) ∨ (∃ xs, SqT X.K H p xs ∧ k = !xs.isEmpty) ∨ ∃ kvs, H p = some (.dK kvs) ∧ k = !kvs.isEmpty := e
    rcases e' with ⟨xs, hx, e'⟩ | ⟨xs, hx, e'⟩ | ⟨kvs, hx, e'⟩
    · subst e'
      obtain ⟨its, r, pl, hz⟩ := I.list hx
      have hlen := r.length
      exact wpAny_truthy_list pl.isList (by simp only [List.size_toArray]; omega) ⟨H, I.tok _, by rw [isEmpty_of r]; exact q⟩
    · subst e'
      obtain ⟨its, r, pl, hz⟩ := I.tuple hx
      have hlen := r.length
      exact truthy_tuple pl (by simp only [List.size_toArray]; omega) ⟨H, I.tok _, by rw [isEmpty_of r]; exact q⟩
    · subst e'
      obtain ⟨hz, hS, vs, r, m⟩ : kvs.length ≤ sizeLine ∧ (p == sysModules) = false ∧ ∃ vs, KV kvs vs ∧ s.heap.DictOf (mixKind X.prog X.w) p vs := I.hok p _ hx
      have hlen : kvs.length = vs.length := Paired.length r
      exact wpAny_truthy_dict hS m (by omega) ⟨H, I.tok _, by rw [isEmpty_kv r]; exact q⟩
  | _ => exact (show False from e).elim
/-- any expression whose test is its value's truth (a name, a call, a subscript, a field ..: he by fun _ => rfl) -/
theorem pt_truth (ha : PE X a ta) (he : ∀ whole, isTrue a X.env whole = (do let v ← whole; standAt a.pos; holding [v] (truthy v))) :
    PT X a (fun σ H Q => ta σ H fun x H' => ∃ k, TruV X.K x H' k ∧ Q k H') := by
  intro pins s σ H Q I h
  exact isTrue_plain (thn (ha pins s σ H _ I h) fun v s1 ⟨x, H1, I1, r1, q1⟩ => tru_ok pins s1 σ H1 x v Q I1 r1 q1) (he _)

/-! ### strs and bytes -/
theorem pe_byt {x : List UInt8} {k : Nat} : PE X (.Constant (.bytes x) k pos) (fun _ H Q => Q (.byt x.toArray) H) := fun _ _ _ H _ I h => PySem.W.Constant_bytes ⟨.byt x.toArray, H, I.tok _, ⟨_, rfl⟩, h⟩
theorem op_add_str : OpR X (binaryOp .Add) (fun x y H Q => ∃ i j, x = .str i ∧ y = .str j ∧ i.length + j.length ≤ sizeLine ∧ Q (.str (i ++ j)) H) := by
  intro pins s σ H x y v u Q I rx ry h
  obtain ⟨i, j, rfl, rfl, hz, q⟩ := h
  obtain ⟨t, rfl⟩ := rx
  obtain ⟨t', rfl⟩ := ry
  exact add_str (fun t' tk => ⟨.str (i ++ j), H, I.tok _, ⟨_, rfl⟩, q⟩) hz
theorem iop_add_str : OpR X (inplaceOp .Add) (fun x y H Q => ∃ i j, x = .str i ∧ y = .str j ∧ i.length + j.length ≤ sizeLine ∧ Q (.str (i ++ j)) H) := by
  intro pins s σ H x y v u Q I rx ry h
  obtain ⟨i, j, rfl, rfl, hz, q⟩ := h
  obtain ⟨t, rfl⟩ := rx
  obtain ⟨t', rfl⟩ := ry
  exact iadd_str (fun t' tk => ⟨.str (i ++ j), H, I.tok _, ⟨_, rfl⟩, q⟩) hz
theorem op_add_byt : OpR X (binaryOp .Add) (fun x y H Q => ∃ i j, x = .byt i ∧ y = .byt j ∧ i.size + j.size ≤ 16777216 ∧ Q (.byt (i ++ j)) H) := by
  intro pins s σ H x y v u Q I rx ry h
  obtain ⟨i, j, rfl, rfl, hz, q⟩ := h
  obtain ⟨t, rfl⟩ := rx
  obtain ⟨t', rfl⟩ := ry
  exact PySem.W.KBy.add_bytes hz (fun t' tk => ⟨.byt (i ++ j), H, I.tok _, ⟨_, rfl⟩, q⟩)

def PlainIxT (b : Expr) : Prop := ∀ o i, subscripted b false o i = operate [o, i] (getItem o i)
/-- s[i], 0 ≤ i < len -/
theorem pe_item_str (ha : PE X a ta) (hb : PE X b tb) (hs : PlainIxT b) :
    PE X (.Subscript a b pos) (tOp (fun x y H Q => ∃ z i c, x = .str z ∧ y = .int i ∧ 0 ≤ i ∧ i < 2 ^ 63 ∧ i < z.length ∧ z.cps[i.toNat]? = some c ∧ Q (.str ⟨#[c]⟩) H) ta tb) := by
  intro pins s σ H Q I h
  refine Subscript_ (binT ha hb I h fun v u s2 x y H2 I2 rx ry q => ?_)
  obtain ⟨z, i, c, rfl, rfl, h0, h63, h1, hc, q⟩ := q
  obtain ⟨t, rfl⟩ := rx
  obtain ⟨t', rfl⟩ := ry
  have e : seqIndex? i z.length = some i.toNat := PySem.StrLaws.seqIndex_nonneg h0 h1
  exact tail_any (typeIs_str s2 z t) slot_str_getitem.lookup (getItem_str (c := c) (by
    have e1 : decide (i < -(2 ^ 63 : Int)) = false := decide_eq_false (by omega)
    have e2 : decide (i ≥ 2 ^ 63) = false := decide_eq_false (by omega)
    rw [e1, e2] <;> rfl) (by rw [e]; exact hc) ⟨.str ⟨#[c]⟩, H2, I2.tok _, ⟨_, rfl⟩, q⟩) (hs _ _)
/-- b[i], 0 ≤ i < len -/
theorem pe_item_byt (ha : PE X a ta) (hb : PE X b tb) (hs : PlainIxT b) :
    PE X (.Subscript a b pos) (tOp (fun x y H Q => ∃ (z : List UInt8) (i : Int), x = .byt z.toArray ∧ y = .int i ∧ z.length ≤ sizeLine ∧ 0 ≤ i ∧ i < z.length ∧ Q (.int ((z.getD i.toNat 0).toNat : Nat)) H) ta tb) := by
  intro pins s σ H Q I h
  refine Subscript_ (binT ha hb I h fun v u s2 x y H2 I2 rx ry q => ?_)
  obtain ⟨z, i, rfl, rfl, hz, h0, h1, q⟩ := q
  obtain ⟨t, rfl⟩ := rx
  obtain ⟨t', rfl⟩ := ry
  have hl : sizeLine = 16777216 := sizeLine_eq
  exact tail_any (PySem.W.typeIs_bytes s2 z.toArray t) PySem.W.FB.slot_bytes_getitem.lookup (PySem.W.getItem_bytes (by omega) h0 h1 ⟨.int ((z.getD i.toNat 0).toNat : Nat), H2, I2.tok _, ⟨_, rfl⟩, q⟩) (hs _ _)

/-! ### scalar builtins, by CallR -/
theorem vals1 {x : V} {us : List Value} (r : Vals [x] us) : ∃ u, us = [u] ∧ RelV x u := by
  cases r with
  | cons r1 r2 => cases r2; exact ⟨_, rfl, r1⟩
theorem vals2 {x y : V} {us : List Value} (r : Vals [x, y] us) : ∃ u w', us = [u, w'] ∧ RelV x u ∧ RelV y w' := by
  cases r with
  | cons r1 r2 =>
    cases r2 with
    | cons r3 r4 => cases r4; exact ⟨_, _, rfl, r1, r3⟩
theorem call_abs : CallR X (.builtin "abs") (fun xs H Q => ∃ i, xs = [.int i] ∧ Q (.int (if i < 0 then -i else i)) H) := by
  intro pins s σ H xs us Q I r h
  obtain ⟨i, rfl, q⟩ := h
  obtain ⟨u, rfl, t, rfl⟩ := vals1 r
  exact call_abs_int fun u tk => ⟨.int (if i < 0 then -i else i), H, I.tok _, ⟨_, rfl⟩, q⟩
theorem call_max2 (hc : X.calm = true) : CallR X (.builtin "max") (fun xs H Q => ∃ i j, xs = [.int i, .int j] ∧ Q (.int (if j > i then j else i)) H) := by
  intro pins s σ H xs us Q I r h
  obtain ⟨i, j, rfl, q⟩ := h
  obtain ⟨u, w', rfl, ⟨t, rfl⟩, ⟨t', rfl⟩⟩ := vals2 r
  refine max_two_ints (I.ok.hd hc) fun h' tk k => ⟨_, H, I.kept k, ?_, q⟩
  by_cases hj : j > i
  · rw [if_pos hj, if_pos hj]; exact ⟨_, rfl⟩
  · rw [if_neg hj, if_neg hj]; exact ⟨_, rfl⟩
theorem call_min2 (hc : X.calm = true) : CallR X (.builtin "min") (fun xs H Q => ∃ i j, xs = [.int i, .int j] ∧ Q (.int (if j < i then j else i)) H) := by
  intro pins s σ H xs us Q I r h
  obtain ⟨i, j, rfl, q⟩ := h
  obtain ⟨u, w', rfl, ⟨t, rfl⟩, ⟨t', rfl⟩⟩ := vals2 r
  refine min_two_ints (I.ok.hd hc) fun h' tk k => ⟨_, H, I.kept k, ?_, q⟩
  by_cases hj : j < i
  · rw [if_pos hj, if_pos hj]; exact ⟨_, rfl⟩
  · rw [if_neg hj, if_neg hj]; exact ⟨_, rfl⟩
theorem call_int1 : CallR X (.type "int") (fun xs H Q => (∃ i, xs = [.int i] ∧ Q (.int i) H) ∨ ∃ k, xs = [.bl k] ∧ Q (.int (if k then 1 else 0)) H) := by
  intro pins s σ H xs us Q I r h
  rcases h with ⟨i, rfl, q⟩ | ⟨k, rfl, q⟩
  · obtain ⟨u, rfl, t, rfl⟩ := vals1 r
    exact call_int_int ⟨.int i, H, I, ⟨_, rfl⟩, q⟩
  · obtain ⟨u, rfl, r1⟩ := vals1 r
    cases r1
    exact call_int_bool ⟨.int (if k then 1 else 0), H, I.tok _, ⟨_, rfl⟩, q⟩
theorem call_bool1 : CallR X (.type "bool") (fun xs H Q => (∃ i, xs = [.int i] ∧ Q (.bl (i != 0)) H) ∨ ∃ k, xs = [.bl k] ∧ Q (.bl k) H) := by
  intro pins s σ H xs us Q I r h
  rcases h with ⟨i, rfl, q⟩ | ⟨k, rfl, q⟩
  · obtain ⟨u, rfl, t, rfl⟩ := vals1 r
    exact call_bool_int ⟨.bl (i != 0), H, I, rfl, q⟩
  · obtain ⟨u, rfl, r1⟩ := vals1 r
    cases r1
    exact call_bool_bool ⟨.bl k, H, I, rfl, q⟩
theorem call_str_int : CallR X (.type "str") (fun xs H Q => ∃ i, xs = [.int i] ∧ i.natAbs.log2 < 1920 ∧ Q (.str (toString i)) H) := by
  intro pins s σ H xs us Q I r h
  obtain ⟨i, rfl, hz, q⟩ := h
  obtain ⟨u, rfl, t, rfl⟩ := vals1 r
  exact PySem.P.str_of_int hz ⟨.str _, H, I.tok _, ⟨_, rfl⟩, q⟩
theorem call_ord : CallR X (.builtin "ord") (fun xs H Q => ∃ x, xs = [.str x] ∧ x.length = 1 ∧ Q (.int (x.cps.getD 0 0 : Nat)) H) := by
  intro pins s σ H xs us Q I r h
  obtain ⟨x, rfl, hz, q⟩ := h
  obtain ⟨u, rfl, t, rfl⟩ := vals1 r
  exact ord_of_one hz ⟨.int _, H, I.tok _, ⟨_, rfl⟩, q⟩
theorem call_chr : CallR X (.builtin "chr") (fun xs H Q => ∃ i, xs = [.int i] ∧ 0 ≤ i ∧ i ≤ 1114111 ∧ Q (.str ⟨#[i.toNat]⟩) H) := by
  intro pins s σ H xs us Q I r h
  obtain ⟨i, rfl, h0, h1, q⟩ := h
  obtain ⟨u, rfl, t, rfl⟩ := vals1 r
  exact chr_of_range h0 h1 ⟨.str _, H, I.tok _, ⟨_, rfl⟩, q⟩
/-- len of a str, a bytes, a list, a tuple -/
def LenV (K : PySem.W.Frag) (x : V) (H : Hp) (n : Nat) : Prop :=
  match x with
  | .str y => y.length ≤ sizeLine ∧ n = y.length
  | .byt y => y.size ≤ sizeLine ∧ n = y.size
  | .ref p => (∃ xs, SqL K H p xs ∧ n = xs.length) ∨ ∃ xs, SqT K H p xs ∧ n = xs.length
  | _ => False
theorem call_len : CallR X (.builtin "len") (fun xs H Q => ∃ x n, xs = [x] ∧ LenV X.K x H n ∧ Q (.int n) H) := by
  intro pins s σ H xs us Q I r h
  obtain ⟨x, n, rfl, e, q⟩ := h
  obtain ⟨u, rfl, rx⟩ := vals1 r
  have hl := line63
  have hs : sizeLine = 16777216 := sizeLine_eq
  cases x with
  | str y =>
    obtain ⟨t, rfl⟩ := rx
    obtain ⟨hy, e'⟩ : y.length ≤ sizeLine ∧ n = y.length := e
    subst e'
    exact len_str (by omega) ⟨.int _, H, I.tok _, ⟨_, rfl⟩, q⟩
  | byt y =>
    obtain ⟨t, rfl⟩ := rx
    obtain ⟨hy, e'⟩ : y.size ≤ sizeLine ∧ n = y.size := e
    subst e'
    exact PySem.W.len_bytes (by omega) ⟨.int _, H, I.tok _, ⟨_, rfl⟩, q⟩
  | ref p =>
    cases rx
    have e' : (∃ xs, SqL X.K H p xs ∧ n = xs.length) ∨ ∃ xs, SqT X.K H p xs ∧ n = xs.length := e
    rcases e' with ⟨xs, hx, e'⟩ | ⟨xs, hx, e'⟩
    · subst e'
      obtain ⟨its, r', pl, hz⟩ := I.list hx
      have hlen := r'.length
      exact Calls.call_len_list pl.isList (by simp only [List.size_toArray]; omega) ⟨.int xs.length, H, I.tok _, ⟨_, by simp only [List.size_toArray]; rw [hlen]⟩, q⟩
    · subst e'
      obtain ⟨its, r', pl, hz⟩ := I.tuple hx
      have hlen := r'.length
      exact len_tuple pl (by simp only [List.size_toArray]; omega) ⟨.int xs.length, H, I.tok _, ⟨_, by simp only [List.size_toArray]; rw [hlen]⟩, q⟩
  | _ => exact (show False from e).elim
/-- divmod: a new tuple -/
theorem call_divmod : CallR X (.builtin "divmod") (fun xs H Q => ∃ i j, xs = [.int i, .int j] ∧ CDiv i j ∧ ∀ p, H p = none → Q (.ref p) (upd H p (.tup [.int (i / j), .int (i % j)]))) := by
  intro pins s σ H xs us Q I r h
  obtain ⟨i, j, rfl, ⟨h1, h2⟩, q⟩ := h
  obtain ⟨u, w', rfl, ⟨t, rfl⟩, ⟨t', rfl⟩⟩ := vals2 r
  refine divmod_int (by omega) ?_ (.inl (PyProof.noPylong_small (by omega)))
  rw [Int.fdiv_eq_ediv_of_nonneg i (by omega), Int.fmod_eq_emod_of_nonneg i (by omega)]
  have hn : H s.heap.objs.size = none := I.hok.fresh (Nat.le_refl _)
  refine ⟨.ref s.heap.objs.size, _, ?_, rfl, q _ hn⟩
  refine I.laid (fun b o e => Heap.get?_push_of_some _ e) (Nat.le_refl _) ⟨by simp only [List.length_cons, List.length_nil]; rw [sizeLine_eq]; decide, [.int (i / j) s.toks, .int (i % j) (s.toks + 1)], .cons ⟨_, rfl⟩ (.cons ⟨_, rfl⟩ .nil), ?_⟩
  exact ⟨_, Heap.get?_push_size s.heap rfl, rfl, 0, rfl⟩
end
end L2

namespace L2
open PySem PySem.Spec PyProof.Rows

/-! ### an instance, its attributes a map -/
structure ObjM (h : Heap) (x dx C : Addr) (mA : Str → Option Value) : Prop where
  obj : h.get? x = some (PySem.W.instObj C dx)
  ns : h.Ns1 dx mA
  ne : dx ≠ x

theorem lookIn_ns {h : Heap} {dx : Addr} {mA : Str → Option Value} (n : h.Ns1 dx mA) : ∃ od, h.get? dx = some od ∧ ∀ name, PySem.W.lookIn name od = some (mA name) := by
  obtain ⟨o, es, ep, ho, hd, hk, _, hm⟩ := n
  refine ⟨o, ho, fun name => ?_⟩
  have e := hm name
  unfold nsFind findBy at e
  rw [← Array.find?_toList] at e
  unfold PySem.W.lookIn
  rw [hd]
  dsimp only
  split
  · rename_i y q
    rw [q] at e
    exact congrArg some e
  · rename_i q
    rw [q] at e
    have a : es.toList.any (·.refKey) = false := by
      rw [List.any_eq_false]
      intro y hy
      obtain ⟨z, t, hkey⟩ := hk y (Array.mem_toList_iff.mp hy)
      simp [DictEntry.refKey, hkey]
    have a' : ¬ es.toList.any (·.refKey) = true := by rw [a]; exact Bool.false_ne_true
    rw [if_neg a']
    exact congrArg some e

theorem ObjM.look {h : Heap} {x dx C : Addr} {mA : Str → Option Value} (I : ObjM h x dx C mA) : ∃ od, PySem.W.InstAt h x (PySem.W.instObj C dx) C (some od) ∧ ∀ name, PySem.W.lookIn name od = some (mA name) :=
  let ⟨od, ho, hl⟩ := lookIn_ns I.ns
  ⟨od, ⟨I.obj, rfl, rfl, ho⟩, hl⟩

section
variable {prog : Program} {w : World} {A : Around} {E : Value → Shared → Prop} {s : Shared} {K : PySem.W.Frag} {x dx C f : Addr} {mA : Str → Option Value} {name : Str} {v : Value}

theorem get_map {expr : Bool} {Q : Value → Shared → Prop} (X : K.In s.heap) (I : ObjM s.heap x dx C mA) (hg : PySem.W.plainGet K C name = true) (hh : PySem.W.hasDictIn K C = true)
    (ha : PySem.W.findIn K (.ref C) name = some none) (hv : mA name = some v) (hv' : PySem.W.handedIn v = true) (h : Q v { s with toks := s.toks + 1 }) :
    wpAny (model prog w) A (getAttr (.ref x) name expr) Q E s := by
  obtain ⟨od, J, hl⟩ := I.look
  exact PySem.W.get_value X J (PySem.W.plainGet_of hg).1 (PySem.W.findObj_own hh ha rfl (by rw [hl, hv])) hv' h

theorem get_const {expr : Bool} {a : Value} {Q : Value → Shared → Prop} (X : K.In s.heap) (I : ObjM s.heap x dx C mA) (hg : PySem.W.plainGet K C name = true) (hh : PySem.W.hasDictIn K C = true)
    (ha : PySem.W.findIn K (.ref C) name = some (some a)) (hn : PySem.W.specialIn K a "__get__" = some none) (hc : PySem.W.copiedNames.contains name = false) (hv : mA name = none) (hv' : PySem.W.handedIn a = true)
    (h : Q a { s with toks := s.toks + 1 }) : wpAny (model prog w) A (getAttr (.ref x) name expr) Q E s := by
  obtain ⟨od, J, hl⟩ := I.look
  exact PySem.W.get_value X J (PySem.W.plainGet_of hg).1 (PySem.W.findObj_cls hh ha hn hv' hc (by rw [hl, hv])) hv' h

theorem get_meth {pl : Sem Bool} {Q : Value × List Value → Shared → Prop} (X : K.In s.heap) (I : ObjM s.heap x dx C mA) (hg : PySem.W.plainGet K C name = true)
    (hf : PySem.W.findIn K (.ref C) name = some (some (.ref f))) (ht : PySem.W.isFn K (.ref f) = true) (hv : mA name = none) (h : Q (.ref f, [.ref x]) s) :
    wpAny (model prog w) A (getMethod (.ref x) name pl) Q E s := by
  obtain ⟨od, J, hl⟩ := I.look
  exact PySem.W.method_fn X J (PySem.W.plainGet_of hg).1 (PySem.W.plainGet_of hg).2 hf (beq_iff_eq.mp ht) (by show (PySem.W.lookIn name od).map (·.isSome) = some false; rw [hl, hv]; rfl) h

theorem set_map {ns : List Str} {Q : Unit → Shared → Prop} (X : K.In s.heap) (I : ObjM s.heap x dx C mA)
    (hs : PySem.W.findIn K (.ref C) "__setattr__" = some (some (.builtin "object.__setattr__"))) (hp : PySem.W.plainOver K C = true) (ht : PySem.W.takerIn K C name = some none) (hh : PySem.W.hasDictIn K C = true)
    (hw : PySem.Within mA ns) (hsz : ns.length ≤ sizeLine)
    (h : ∀ h', ObjM h' x dx C (fun y => if y = name then some v else mA y) → Heap.SameBut dx s.heap h' → Q () { s with heap := h', toks := s.toks + 2 }) :
    wpAny (model prog w) A (setAttr (.ref x) name v) Q E s := by
  obtain ⟨od, J, hl⟩ := I.look
  refine PySem.W.set_plain X J hs (PySem.W.osa_open (s := { s with toks := s.toks + 1 }) (r := none) X J hp ht fun b => ?_)
  obtain ⟨cd, hc, hd'⟩ := PySem.W.any_some hh
  have hx : s.heap.get? x = some ⟨.ref C, some dx, .plain, #[]⟩ := I.obj
  refine wpAny_bind (wpAny_pure (wpAny_bind (wpAny_bind (wpAny_loadPart hx (wpAny_bind (PySem.W.Looks.here (s := { s with toks := s.toks + 1 }) (PySem.W.looks_clsIn X hc) ?_))))))
  rw [hd']
  refine wpAny_pure (a := some dx) (wpAny_bind (wpAny_pure (wpAny_bind ?_)))
  refine wpAny_nsSet1 (s := { s with toks := s.toks + 1 }) I.ns fun h' hn2 hs2 => ?_
  obtain ⟨oD, esD, epD, hoD, hdD, hcD⟩ := hn2.count (PySem.Within.cons name v hw)
  refine wpAny_bind (wpAny_lookBehind hoD (by rw [hdD]; exact pastItsLine_dict (Nat.le_trans hcD (by rw [List.length_cons]; omega))) ?_)
  exact wpAny_pure (h _ ⟨(hs2.2 _ (Ne.symm I.ne)).trans I.obj, hn2, I.ne⟩ hs2)

/-- C(..): the dict at the heap's end, the instance behind it; then its __init__ -/
theorem make_map {R : Result → Shared → Prop} {vs : List Value} {kw : List (Str × Value)} (X : K.In s.heap) (hm : PySem.W.makesIn K C = true)
    (hi : PySem.W.findIn K (.ref C) "__init__" = some (some (.ref f))) (hf : PySem.W.typeIn K (.ref f) = some (.type "function"))
    (h : codeAny (model prog w) (A.under (.builtin "type.__call__" ⟨.ref C :: vs, kw⟩)) (.call (.ref f) ⟨.ref (s.heap.objs.size + 1) :: vs, kw⟩) (PySem.W.InitBack (s.heap.objs.size + 1) R)
      { s with heap := (s.heap.push PySem.W.emptyDict).push (PySem.W.instObj C s.heap.objs.size) }) :
    codeAny (model prog w) A (.call (.ref C) ⟨vs, kw⟩) R s := by
  obtain ⟨hh, g, d, t, os⟩ := s
  exact PySem.W.make_core (PySem.W.makes_of X hm) (PySem.W.looks_findIn X hi) (fun self => PySem.W.bind_fn X self hf) (.inl rfl) h
/-- C() where there is no __init__ but object's -/
theorem make_map0 {R : Result → Shared → Prop} (X : K.In s.heap) (hm : PySem.W.makesIn K C = true)
    (hi : PySem.W.findIn K (.ref C) "__init__" = some (some (.builtin "object.__init__")))
    (hb : ∀ self, PySem.W.Looks (model prog w) s.heap (bindSpecial (.builtin "object.__init__") self) (.builtin "object.__init__", [self]))
    (h : codeAny (model prog w) (A.under (.builtin "type.__call__" ⟨[.ref C], []⟩)) (.call (.builtin "object.__init__") ⟨[.ref (s.heap.objs.size + 1)], []⟩) (PySem.W.InitBack (s.heap.objs.size + 1) R)
      { s with heap := (s.heap.push PySem.W.emptyDict).push (PySem.W.instObj C s.heap.objs.size) }) :
    codeAny (model prog w) A (.call (.ref C) ⟨[], []⟩) R s := by
  obtain ⟨hh, g, d, t, os⟩ := s
  exact PySem.W.make_core (PySem.W.makes_of X hm) (PySem.W.looks_findIn X hi) hb (.inr ⟨rfl, rfl⟩) h
end

/-! ### the attributes as a list of pairs -/
def putF (f : Str) (v : V) : List (Str × V) → List (Str × V)
  | [] => [(f, v)]
  | (g, x) :: r => if g = f then (g, v) :: r else (g, x) :: putF f v r
theorem lookup_putF (f g : Str) (v : V) : ∀ fs : List (Str × V), (putF f v fs).lookup g = if g = f then some v else fs.lookup g
  | [] => by
    show List.lookup g [(f, v)] = _
    by_cases h : g = f
    · have hb : (g == f) = true := beq_iff_eq.mpr h
      simp only [List.lookup, hb, if_pos h]
    · have hb : (g == f) = false := beq_eq_false_iff_ne.mpr h
      simp only [List.lookup, hb, if_neg h]
  | (k, x) :: r => by
    have ih := lookup_putF f g v r
    rw [show putF f v ((k, x) :: r) = (if k = f then (k, v) :: r else (k, x) :: putF f v r) from rfl]
    by_cases hk : k = f
    · rw [if_pos hk]
      by_cases h : g = k
      · have hb : (g == k) = true := beq_iff_eq.mpr h
        simp only [List.lookup, hb, if_pos (h.trans hk)]
      · have hb : (g == k) = false := beq_eq_false_iff_ne.mpr h
        simp only [List.lookup, hb, if_neg (fun e : g = f => h (e.trans hk.symm))]
    · rw [if_neg hk]
      by_cases h : g = k
      · have hb : (g == k) = true := beq_iff_eq.mpr h
        simp only [List.lookup, hb, if_neg (fun e : g = f => hk (h.symm.trans e))]
      · have hb : (g == k) = false := beq_eq_false_iff_ne.mpr h
        simp only [List.lookup, hb]
        exact ih
theorem keys_putF (f : Str) (v : V) : ∀ fs : List (Str × V), f ∈ (putF f v fs).map (·.1) ∧ ∀ g, g ∈ fs.map (·.1) → g ∈ (putF f v fs).map (·.1)
  | [] => ⟨by simp [putF], fun g h => by simp at h⟩
  | (k, x) :: r => by
    obtain ⟨i1, i2⟩ := keys_putF f v r
    rw [show putF f v ((k, x) :: r) = (if k = f then (k, v) :: r else (k, x) :: putF f v r) from rfl]
    by_cases hk : k = f
    · rw [if_pos hk]
      subst hk
      exact ⟨by simp, fun g h => by simpa using h⟩
    · rw [if_neg hk]
      refine ⟨?_, fun g h => ?_⟩
      · rw [List.map_cons]
        exact List.mem_cons_of_mem _ i1
      · rw [List.map_cons] at h ⊢
        rcases List.mem_cons.mp h with e | e
        · exact List.mem_cons.mpr (.inl e)
        · exact List.mem_cons_of_mem _ (i2 g e)
theorem length_putF (f : Str) (v : V) : ∀ fs : List (Str × V), (putF f v fs).length ≤ fs.length + 1
  | [] => by simp [putF]
  | (k, x) :: r => by
    have ih := length_putF f v r
    rw [show putF f v ((k, x) :: r) = (if k = f then (k, v) :: r else (k, x) :: putF f v r) from rfl]
    by_cases hk : k = f
    · rw [if_pos hk, List.length_cons, List.length_cons]; omega
    · rw [if_neg hk, List.length_cons, List.length_cons]; omega

theorem RelO.some_of {v : V} {o : Option Value} (r : RelO (some v) o) : ∃ u, o = some u ∧ RelV v u := by
  cases o with
  | none => exact (show False from r).elim
  | some u => exact ⟨u, rfl, r⟩
theorem RelO.none_of {o : Option Value} (r : RelO none o) : o = none := by
  cases o with
  | none => rfl
  | some u => exact (show False from r).elim
theorem handed_of {v : V} {u : Value} (r : RelV v u) : PySem.W.handedIn u = true := by
  cases v with
  | non => cases (show u = Value.none from r); rfl
  | bl b => cases (show u = Value.bool b from r); rfl
  | int i => obtain ⟨t, e⟩ := (show ∃ t, u = Value.int i t from r); cases e; rfl
  | str x => obtain ⟨t, e⟩ := (show ∃ t, u = Value.str x t from r); cases e; rfl
  | byt b => obtain ⟨t, e⟩ := (show ∃ t, u = Value.bytes b t from r); cases e; rfl
  | flt b => obtain ⟨t, e⟩ := (show ∃ t, u = Value.float b t from r); cases e; rfl
  | ref a => cases (show u = Value.ref a from r); rfl
  | ty n => cases (show u = Value.type n from r); rfl

section
variable {P : Program} {w : World} {H H' : Hp} {h h' : Heap} {a C dx : Addr} {fs fs' : List (Str × V)}
theorem ins_get (hok : HOk P w H h) (e : H a = some (.ins C dx fs)) : ∃ mA, ObjM h a dx C mA ∧ (∀ f, RelO (fs.lookup f) (mA f)) ∧ PySem.Within mA (fs.map (·.1)) ∧ fs.length ≤ 1000 ∧ H dx = some (.own a) := by
  obtain ⟨d, z, ne, ob, mA, n, r, q⟩ := (show ObjOk P w H h a (.ins C dx fs) from hok a _ e)
  exact ⟨mA, ⟨ob, n, ne⟩, r, q, z, d⟩
end

/-! ### what of the text a class must have -/
structure Cls (K : PySem.W.Frag) (C : Addr) : Prop where
  pg : PySem.W.plainGet K C Str.empty = true
  hd : PySem.W.hasDictIn K C = true
  po : PySem.W.plainOver K C = true
  sa : PySem.W.findIn K (.ref C) "__setattr__" = some (some (.builtin "object.__setattr__"))
theorem Cls.get {K : PySem.W.Frag} {C : Addr} (c : Cls K C) (f : Str) : PySem.W.plainGet K C f = true := c.pg
/-- no class of it has the name -/
def NoAttr (K : PySem.W.Frag) (C : Addr) (f : Str) : Prop := PySem.W.findIn K (.ref C) f = some none
theorem NoAttr.taker {K : PySem.W.Frag} {C : Addr} {f : Str} (n : NoAttr K C f) : PySem.W.takerIn K C f = some none := by
  unfold PySem.W.takerIn
  rw [show PySem.W.findIn K (.ref C) f = some none from n]
  rfl
/-- a constant of the class -/
structure Con (K : PySem.W.Frag) (C : Addr) (f : Str) (v : V) (u : Value) : Prop where
  at_ : PySem.W.findIn K (.ref C) f = some (some u)
  rel : RelV v u
  get : PySem.W.specialIn K u "__get__" = some none
  cp : PySem.W.copiedNames.contains f = false
/-- a method: a plain def of the class or of one above it -/
structure Meth (K : PySem.W.Frag) (C : Addr) (m : Str) (f : Addr) : Prop where
  at_ : PySem.W.findIn K (.ref C) m = some (some (.ref f))
  fn : PySem.W.isFn K (.ref f) = true
  kp : PySem.W.keepIn K (.ref f) = true

section
variable {X : Cx} {pins : List (Addr × Obj)} {σ : St} {H : Hp} {s : Shared} {a C dx : Addr} {fs : List (Str × V)} {f : Str} {v : V} {A : Around} {E : Value → Shared → Prop}

theorem getattr_ok {b : Bool} {Q : Value → Shared → Prop} (I : Inv X pins σ H s) (e : H a = some (.ins C dx fs)) (c : Cls X.K C) (n : NoAttr X.K C f) (l : fs.lookup f = some v)
    (h : ∀ u s', Inv X pins σ H s' → RelV v u → Q u s') : wpAny (model X.prog X.w) A (getAttr (.ref a) f b) Q E s := by
  obtain ⟨mA, O, r, _, _, _⟩ := ins_get I.hok e
  obtain ⟨u, hu, ru⟩ := RelO.some_of (v := v) (o := mA f) (by rw [← l]; exact r f)
  exact get_map I.kIn O (c.get f) c.hd n hu (handed_of ru) (h u _ (I.tok _) ru)

theorem getcon_ok {b : Bool} {u : Value} {Q : Value → Shared → Prop} (I : Inv X pins σ H s) (e : H a = some (.ins C dx fs)) (c : Cls X.K C) (k : Con X.K C f v u) (l : fs.lookup f = none)
    (h : ∀ s', Inv X pins σ H s' → Q u s') : wpAny (model X.prog X.w) A (getAttr (.ref a) f b) Q E s := by
  obtain ⟨mA, O, r, _, _, _⟩ := ins_get I.hok e
  have hn : mA f = none := RelO.none_of (by rw [← l]; exact r f)
  exact get_const I.kIn O (c.get f) c.hd k.at_ k.get k.cp hn (handed_of k.rel) (h _ (I.tok _))

theorem getmeth_ok {m : Str} {g : Addr} {pl : Sem Bool} {Q : Value × List Value → Shared → Prop} (I : Inv X pins σ H s) (e : H a = some (.ins C dx fs)) (c : Cls X.K C) (k : Meth X.K C m g) (l : fs.lookup m = none)
    (h : Q (.ref g, [.ref a]) s) : wpAny (model X.prog X.w) A (getMethod (.ref a) m pl) Q E s := by
  obtain ⟨mA, O, r, _, _, _⟩ := ins_get I.hok e
  have hn : mA m = none := RelO.none_of (by rw [← l]; exact r m)
  exact get_meth I.kIn O (c.get m) k.at_ k.fn hn h

theorem setattr_ok {y : V} {u : Value} {Q : Unit → Shared → Prop} (I : Inv X pins σ H s) (e : H a = some (.ins C dx fs)) (c : Cls X.K C) (n : NoAttr X.K C f) (hl : fs.length < 1000) (ry : RelV y u)
    (h : ∀ s', Inv X pins σ (upd H a (.ins C dx (putF f y fs))) s' → Q () s') : wpAny (model X.prog X.w) A (setAttr (.ref a) f u) Q E s := by
  obtain ⟨mA, O, r, wi, _, ho⟩ := ins_get I.hok e
  have hz : (fs.map (·.1)).length ≤ sizeLine := by rw [List.length_map, sizeLine_eq]; omega
  refine set_map I.kIn O c.sa c.po n.taker c.hd wi hz fun h' O' sb => h _ ?_
  have hd : ∃ o, h'.get? dx = some o := let ⟨o, _, _, e', _⟩ := O'.ns; ⟨o, e'⟩
  refine I.write (x := a) (e := dx) (by rw [e]; exact True.intro) (.inr ho) (fun b q hb z => (sb.2 b hb).trans z) hd ?_
  refine ⟨by rw [upd_ne O.ne]; exact ho, ?_, O.ne, O'.obj, _, O'.ns, fun g => ?_, fun g hg => ?_⟩
  · have := length_putF f y fs; omega
  · show RelO ((putF f y fs).lookup g) (if g = f then some u else mA g)
    rw [lookup_putF]
    by_cases q : g = f
    · rw [if_pos q, if_pos q]; exact ry
    · rw [if_neg q, if_neg q]; exact r g
  · by_cases q : g = f
    · rw [q]; exact (keys_putF f y fs).1
    · refine (keys_putF f y fs).2 g (wi g fun z => hg ?_)
      show (if g = f then some u else mA g) = none
      rw [if_neg q]; exact z

/-- a new instance, tracked, without attributes -/
theorem Inv.made (I : Inv X pins σ H s) : Inv X pins σ (upd (upd H s.heap.objs.size (.own (s.heap.objs.size + 1))) (s.heap.objs.size + 1) (.ins C s.heap.objs.size []))
    { s with heap := (s.heap.push PySem.W.emptyDict).push (PySem.W.instObj C s.heap.objs.size) } := by
  have e1 : (s.heap.push PySem.W.emptyDict).get? s.heap.objs.size = some PySem.W.emptyDict := Heap.get?_push_size s.heap rfl
  have e2 : ((s.heap.push PySem.W.emptyDict).push (PySem.W.instObj C s.heap.objs.size)).get? (s.heap.objs.size + 1) = some (PySem.W.instObj C s.heap.objs.size) := by
    have := Heap.get?_push_size (s.heap.push PySem.W.emptyDict) (o := PySem.W.instObj C s.heap.objs.size) rfl
    rwa [Heap.size_push] at this
  have e3 : (s.heap.push PySem.W.emptyDict).Ns s.heap.objs.size (fun _ => none) := ⟨PySem.W.emptyDict, #[], _, e1, rfl, (fun e he => absurd he (by simp)), fun _ => rfl⟩
  have I1 := I.laid (a := s.heap.objs.size) (o := .own (s.heap.objs.size + 1)) (h' := s.heap.push PySem.W.emptyDict) (t' := s.toks) (fun b u q => Heap.get?_push_of_some _ q) (Nat.le_refl _) ⟨_, e1⟩
  refine I1.laid (a := s.heap.objs.size + 1) (o := .ins C s.heap.objs.size []) (t' := s.toks) (fun b u q => Heap.get?_push_of_some _ q) (Nat.le_of_eq (Heap.size_push _ _)) ?_
  have ne : s.heap.objs.size ≠ s.heap.objs.size + 1 := Nat.ne_of_lt (Nat.lt_succ_self _)
  refine ⟨by rw [upd_ne ne, upd_same], Nat.zero_le _, ne, e2, fun _ => none, (Heap.Ns1.of_empty e3).at fun o q => Heap.get?_push_of_some _ q, fun _ => True.intro, fun y hy => absurd rfl hy⟩

/-- e.f where nothing but the object is asked: through attributeBase (super) and the last hold -/
theorem attr_of {prog : Program} {w : World} {env : Env} {e : Expr} {f : Str} {pos : Pos} {s : Shared} {Q : Value → Shared → Prop} (hb : attributeBase e f env (eval e env) = eval e env)
    (h : wpAny (model prog w) A (eval e env) (fun o s₁ => wpAny (model prog w) A (getAttr o f true) Q E s₁) E s) : wpAny (model prog w) A (eval (.Attribute e f pos) env) Q E s :=
  Attribute_any_ h (by rw [arm_eval_Attribute, hb])
end

/-! ### readings and rules -/
/-- e.f, an attribute of the instance -/
def tFld (K : PySem.W.Frag) (ta : TE) (f : Str) : TE := fun σ H Q => ta σ H fun x H1 => ∃ a C dx fs v, x = .ref a ∧ H1 a = some (.ins C dx fs) ∧ Cls K C ∧ NoAttr K C f ∧ fs.lookup f = some v ∧ Q v H1
/-- e.f, a constant of the class -/
def tCon (K : PySem.W.Frag) (ta : TE) (f : Str) : TE := fun σ H Q => ta σ H fun x H1 => ∃ a C dx fs v u, x = .ref a ∧ H1 a = some (.ins C dx fs) ∧ Cls K C ∧ Con K C f v u ∧ fs.lookup f = none ∧ Q v H1
/-- e.f = value -/
def sFld (K : PySem.W.Frag) (ta tv : TE) (f : Str) : TS := fun D σ H => tv σ H fun y H1 => ta σ H1 fun x H2 => ∃ a C dx fs, x = .ref a ∧ H2 a = some (.ins C dx fs) ∧ Cls K C ∧ NoAttr K C f ∧ fs.length < 1000 ∧
  D.nx σ (upd H2 a (.ins C dx (putF f y fs)))
/-- an augmented operator on two values -/
def InOp (X : Cx) (op : Operator) (rd : V → V → Hp → VK → Prop) : Prop :=
  ∀ (pins : List (Addr × Obj)) (s : Shared) (σ : St) (H : Hp) (x y : V) (u v : Value) (Q : VK), Inv X pins σ H s → RelV x u → RelV y v → rd x y H Q → wpAny (model X.prog X.w) X.A (inplaceOp op u v) (EP X pins σ Q) X.xe s
/-- e.f op= value -/
def sFldAug (K : PySem.W.Frag) (ta tv : TE) (rd : V → V → Hp → VK → Prop) (f : Str) : TS := fun D σ H => ta σ H fun x H1 => ∃ a C dx fs v, x = .ref a ∧ H1 a = some (.ins C dx fs) ∧ Cls K C ∧ NoAttr K C f ∧ fs.lookup f = some v ∧
  tv σ H1 fun y H2 => rd v y H2 fun z H3 => ∃ dx' fs', H3 a = some (.ins C dx' fs') ∧ fs'.length < 1000 ∧ D.nx σ (upd H3 a (.ins C dx' (putF f z fs')))

section
variable {X : Cx} {o e value : Expr} {f : Str} {pos pos' tpos : Pos} {ta tv : TE}
theorem pe_fld (he : PE X e ta) (hb : attributeBase e f X.env (eval e X.env) = eval e X.env) : PE X (.Attribute e f pos) (tFld X.K ta f) := by
  intro pins s σ H Q I h
  refine attr_of hb (thn (he pins s σ H _ I h) fun u s1 ⟨x, H1, I1, rx, a, C, dx, fs, v, ex, ea, c, n, l, q⟩ => ?_)
  subst ex
  obtain rfl : u = Value.ref a := rx
  exact getattr_ok I1 ea c n l fun u' s2 I2 ru => ⟨v, H1, I2, ru, q⟩
theorem pe_con (he : PE X e ta) (hb : attributeBase e f X.env (eval e X.env) = eval e X.env) : PE X (.Attribute e f pos) (tCon X.K ta f) := by
  intro pins s σ H Q I h
  refine attr_of hb (thn (he pins s σ H _ I h) fun u s1 ⟨x, H1, I1, rx, a, C, dx, fs, v, u0, ex, ea, c, k, l, q⟩ => ?_)
  subst ex
  obtain rfl : u = Value.ref a := rx
  exact getcon_ok I1 ea c k l fun s2 I2 => ⟨v, H1, I2, k.rel, q⟩
theorem ps_fld (ha : PE X o ta) (hv : PE X value tv) (hs : swapsWith value (some (.Attribute o f pos')) pos.line X.env = pure false) : PS X (.Assign [.Attribute o f pos'] value pos) (sFld X.K ta tv f) := by
  intro pins s σ H D I h
  refine plainObj_wpAny_Assign_Attribute (thn (hv pins s σ H _ I h) fun u s1 ⟨y, H1, I1, ry, q⟩ => thn (ha pins s1 σ H1 _ I1 q) fun ov s2 ⟨x, H2, I2, rx, a, C, dx, fs, ex, ea, c, n, l, q2⟩ => ?_) hs
  subst ex
  obtain rfl : ov = Value.ref a := rx
  exact setattr_ok I2 ea c n l ry fun s3 I3 => ⟨σ, _, I3, q2⟩
theorem ps_fldaug {op : Operator} {rd : V → V → Hp → VK → Prop} (ha : PE X o ta) (hv : PE X value tv) (hop : InOp X op rd) : PS X (.AugAssign (.Attribute o f tpos) op value pos) (sFldAug X.K ta tv rd f) := by
  intro pins s σ H D I h
  refine wpAny_AugAssign_AttributeAny (thn (ha pins s σ H _ I h) fun ov s1 ⟨x, H1, I1, rx, a, C, dx, fs, v, ex, ea, c, n, l, q⟩ => ?_)
  subst ex
  obtain rfl : ov = Value.ref a := rx
  refine getattr_ok I1 ea c n l fun u s2 I2 ru => thn (hv pins s2 σ H1 _ I2 q) fun w3 s3 ⟨y, H2, I3, ry, q3⟩ => thn (hop pins s3 σ H2 v y u w3 _ I3 ru ry q3) fun w4 s4 ⟨z, H3, I4, rz, dx', fs', ea', l', q4⟩ => ?_
  exact setattr_ok I4 ea' c n l' rz fun s5 I5 => ⟨σ, _, I5, q4⟩
def rAdd : V → V → Hp → VK → Prop := fun x y H Q => ∃ i j, x = .int i ∧ y = .int j ∧ Q (.int (i + j)) H
def rSub : V → V → Hp → VK → Prop := fun x y H Q => ∃ i j, x = .int i ∧ y = .int j ∧ Q (.int (i - j)) H
theorem in_add : InOp X .Add rAdd := by
  rintro pins s σ H x y u v Q I rx ry ⟨i, j, rfl, rfl, q⟩
  obtain ⟨t, rfl⟩ := (show ∃ t, u = Value.int i t from rx)
  obtain ⟨t', rfl⟩ := (show ∃ t', v = Value.int j t' from ry)
  exact PyProof.Rows.iadd_int ⟨.int (i + j), H, I.tok _, ⟨_, rfl⟩, q⟩
theorem in_sub : InOp X .Sub rSub := by
  rintro pins s σ H x y u v Q I rx ry ⟨i, j, rfl, rfl, q⟩
  obtain ⟨t, rfl⟩ := (show ∃ t, u = Value.int i t from rx)
  obtain ⟨t', rfl⟩ := (show ∃ t', v = Value.int j t' from ry)
  exact PyProof.Rows.isub_int ⟨.int (i - j), H, I.tok _, ⟨_, rfl⟩, q⟩

/-- what is between an instance and its method: the tree of a method call -/
theorem methcall_of {pl : Sem Bool} {m : Str} {apos : Pos} {args : List Expr} {pins : List (Addr × Obj)} {s : Shared} {σ : St} {H : Hp} {Q : Value → Shared → Prop} {te : TE} (he : PE X e te) (I : Inv X pins σ H s)
    (h : te σ H fun x H1 => ∃ a C dx fs g, x = .ref a ∧ H1 a = some (.ins C dx fs) ∧ Cls X.K C ∧ Meth X.K C m g ∧ fs.lookup m = none ∧
      ∀ s1, Inv X pins σ H1 s1 → wpAny (model X.prog X.w) X.A (callWith pos (.ref g) [.ref a] (backTo pos (starEach args X.env)) (backToKw pos (keywordEach [] X.env))) Q X.xe s1)
    (ht : eval (.Call (.Attribute e m apos) args [] pos) X.env = (do
      let ov ← eval e X.env
      standAt apos.atName
      let (f, first) ← holding [ov] (getMethod ov m pl)
      callWith pos f first (backTo pos (starEach args X.env)) (backToKw pos (keywordEach [] X.env)))) :
    wpAny (model X.prog X.w) X.A (eval (.Call (.Attribute e m apos) args [] pos) X.env) Q X.xe s := by
  refine PySem.W.methodCall_KW (pl := pl) (thn (he pins s σ H _ I h) fun u s1 ⟨x, H1, I1, rx, a, C, dx, fs, g, ex, ea, c, k, l, q⟩ => ?_) ht
  subst ex
  obtain rfl : u = Value.ref a := rx
  exact getmeth_ok I1 ea c k l (q s1 I1)
end

/-! ### isinstance -/
section
variable {X : Cx} {pins : List (Addr × Obj)} {σ : St} {H : Hp} {s : Shared} {A : Around} {E : Value → Shared → Prop} {Q : Value → Shared → Prop} {c : Value} {b : Bool}
/-- the type of a value, as the fragment's deciders take it; for an instance its class -/
inductive TyOf (K : PySem.W.Frag) (H : Hp) : V → Value → Prop where
  | non : TyOf K H .non (.type "NoneType")
  | bl (x : Bool) : TyOf K H (.bl x) (.type "bool")
  | int (i : Int) : TyOf K H (.int i) (.type "int")
  | str (x : Str) : TyOf K H (.str x) (.type "str")
  | flt (x : UInt64) : TyOf K H (.flt x) (.type "float")
  | lst {a : Addr} {xs : List V} (e : H a = some (.lst xs)) : TyOf K H (.ref a) (.type "list")
  | frz {a : Addr} {o : Obj} {xs : List V} (e : H a = some (.frz o (.lst xs))) : TyOf K H (.ref a) (.type "list")
  | tup {a : Addr} {xs : List V} (e : H a = some (.tup xs)) : TyOf K H (.ref a) (.type "tuple")
  | dK {a : Addr} {kvs : List (Key × V)} (e : H a = some (.dK kvs)) : TyOf K H (.ref a) (.type "dict")
  | dT {a : Addr} {kvs : List (List Key × V)} (e : H a = some (.dT kvs)) : TyOf K H (.ref a) (.type "dict")
  | ins {a C dx : Addr} {fs : List (Str × V)} (e : H a = some (.ins C dx fs)) (cl : Cls K C) (ha : PySem.W.findIn K (.ref C) "__class__" = some (some (.builtin "object.__class__")))
      (hn : PySem.W.specialIn K (.builtin "object.__class__") "__get__" = some (some (.builtin "getset_descriptor.__get__"))) (htk : PySem.W.takesIn K (.builtin "object.__class__") = some true)
      (hm : PySem.W.mroIn K C (.type "object") = some true) : TyOf K H (.ref a) (.ref C)
/-- isinstance(x, c) for one class c, a built-in or an own one: kitOne's answer -/
theorem isinst_ok {x : V} {u t : Value} (I : Inv X pins σ H s) (rx : RelV x u) (ty : TyOf X.K H x t) (e : PySem.W.kitOne X.K t c = some b) (h : ∀ tk, Q (.bool b) { s with toks := tk }) :
    wpAny (model X.prog X.w) A (call (.builtin "isinstance") [u, c]) Q E s := by
  cases ty with
  | non => cases (show u = Value.none from rx); exact PySem.W.kia_one PySem.W.kitx_none I.kIn True.intro e (fun z => nomatch z) h
  | bl y => cases (show u = Value.bool y from rx); exact PySem.W.kia_one PySem.W.kitx_bool I.kIn True.intro e (fun z => nomatch z) h
  | int i => obtain ⟨t, q⟩ := (show ∃ t, u = Value.int i t from rx); cases q; exact PySem.W.kia_one PySem.W.kitx_int I.kIn True.intro e (fun z => nomatch z) h
  | str y => obtain ⟨t, q⟩ := (show ∃ t, u = Value.str y t from rx); cases q; exact PySem.W.kia_one PySem.W.kitx_str I.kIn True.intro e (fun z => nomatch z) h
  | flt y => obtain ⟨t, q⟩ := (show ∃ t, u = Value.float y t from rx); cases q; exact PySem.W.kia_one PySem.W.kitx_float I.kIn True.intro e (fun z => nomatch z) h
  | @lst a xs ea =>
    cases (show u = Value.ref a from rx)
    obtain ⟨_, _, n, _, h1⟩ := (show ObjOk X.prog X.w H s.heap a (.lst xs) from I.hok a _ ea)
    exact PySem.W.kia_one PySem.W.kitx_list I.kIn ⟨_, h1, rfl⟩ e (fun z => nomatch z) h
  | @frz a ob xs ea =>
    cases (show u = Value.ref a from rx)
    obtain ⟨_, _, _, n, _, h1⟩ := (show ObjOk X.prog X.w H s.heap a (.frz ob (.lst xs)) from I.hok a _ ea)
    exact PySem.W.kia_one PySem.W.kitx_list I.kIn ⟨_, h1, rfl⟩ e (fun z => nomatch z) h
  | @tup a xs ea =>
    cases (show u = Value.ref a from rx)
    obtain ⟨_, _, _, p⟩ := (show ObjOk X.prog X.w H s.heap a (.tup xs) from I.hok a _ ea)
    obtain ⟨o, h1, h2, _⟩ := p
    exact PySem.W.kia_one PySem.W.kitx_tuple I.kIn ⟨o, h1, h2⟩ e (fun z => nomatch z) h
  | @dK a kvs ea =>
    cases (show u = Value.ref a from rx)
    obtain ⟨_, _, vs, _, p⟩ := (show ObjOk X.prog X.w H s.heap a (.dK kvs) from I.hok a _ ea)
    obtain ⟨o, es, ep, h1, h2, _⟩ := p
    exact PySem.W.kia_one PySem.W.kitx_dict I.kIn ⟨o, h1, h2.1⟩ e (fun z => nomatch z) h
  | @dT a kvs ea =>
    cases (show u = Value.ref a from rx)
    obtain ⟨_, _, xs, _, o, es, ep, h1, h2, _⟩ := (show ObjOk X.prog X.w H s.heap a (.dT kvs) from I.hok a _ ea)
    exact PySem.W.kia_one PySem.W.kitx_dict I.kIn ⟨o, h1, h2.1⟩ e (fun z => nomatch z) h
  | @ins a C dx fs ea cl ha hn htk hm =>
    cases (show u = Value.ref a from rx)
    obtain ⟨mA, O, _⟩ := ins_get I.hok ea
    obtain ⟨od, J, _⟩ := O.look
    exact PySem.W.kia_one (PySem.W.kitx_own (cl.get _) cl.hd ha hn htk hm) I.kIn J e (fun z => nomatch z) h
end
end L2

namespace L2
open PySem PySem.Spec PyProof.Rows

/-! ### room -/
structure Room (k : Nat) (A : Around) : Prop where
  hd : A.handled = none
  dp : A.depth + 3 * k + 5 < recursionLimit
  un : A.units + 16 * k + 200 < cLine
theorem Room.mono {j k : Nat} {A : Around} (r : Room k A) (h : j ≤ k) : Room j A := ⟨r.hd, by have := r.dp; omega, by have := r.un; omega⟩
theorem Room.deeper {k : Nat} {A : Around} (r : Room (k + 1) A) (env : Env) : Room k (A.deeper env) :=
  ⟨r.hd, by have := r.dp; show A.depth + 1 + 3 * k + 5 < _; omega, by have := r.un; show A.units + 3 + 16 * k + 200 < _; omega⟩
theorem Room.in1 {k : Nat} {A : Around} (r : Room (k + 1) A) : Room k A.in1 :=
  ⟨r.hd, by have := r.dp; show A.depth + 3 * k + 5 < _; omega, by have := r.un; show A.units + 1 + 16 * k + 200 < _; omega⟩
theorem make_depth {A : Around} {C : Addr} {us : List Value} {kw : List (Str × Value)} : (A.under (.builtin "type.__call__" ⟨.ref C :: us, kw⟩)).depth = A.depth + 1 := by
  first | rfl | simp [Around.under, Code.weight, Code.isCreation, Code.isGuard, Code.isCaller, Code.frames, Code.isFrame, guardIds]
theorem make_units {A : Around} {C : Addr} {us : List Value} {kw : List (Str × Value)} : (A.under (.builtin "type.__call__" ⟨.ref C :: us, kw⟩)).units = A.units + 1 := by
  first | rfl | simp [Around.under, Code.cUnits, Code.frames, Code.isFrame]
theorem Room.make {k : Nat} {A : Around} (r : Room (k + 1) A) (C : Addr) (us : List Value) (kw : List (Str × Value)) : Room k (A.under (.builtin "type.__call__" ⟨.ref C :: us, kw⟩)) :=
  ⟨r.hd, by have := r.dp; rw [make_depth]; omega, by have := r.un; rw [make_units]; omega⟩
theorem Room.depth {k : Nat} {A : Around} (r : Room k A) : A.depth < recursionLimit := by have := r.dp; omega
theorem Room.units {k : Nat} {A : Around} (r : Room k A) : A.units + 64 < cLine := by have := r.un; omega
theorem Room.units0 {k : Nat} {A : Around} (r : Room k A) : A.units < cLine := by have := r.un; omega

/-! ### argument lists and displays -/
def tNil : TA := fun _ H Q => Q [] H
def tCons (ta : TE) (tr : TA) : TA := fun σ H Q => ta σ H fun x H1 => tr σ H1 fun xs H2 => Q (x :: xs) H2
section
variable {X : Cx} {e : Expr} {es : List Expr} {te : TE} {t : TA} {pos : Pos}
theorem pa_nil : PA X [] tNil := fun _ _ _ _ H Q I h => Calls.spliced_nil ⟨[], H, I, .nil, h⟩
theorem pa_cons (ha : PE X e te) (hr : PA X es t) (hs : starEach (e :: es) X.env = (false, eval e X.env) :: starEach es X.env := by rfl) : PA X (e :: es) (tCons te t) := by
  intro pos pins s σ H Q I h
  rw [hs]
  show wpAny _ _ (spliced ((false, eval e X.env) :: backTo pos (starEach es X.env))) _ _ s
  refine Calls.spliced_cons (thn (ha pins s σ H _ I h) fun u s1 ⟨x, H1, I1, r1, q1⟩ => ?_)
  exact thn (hr pos pins s1 σ H1 _ I1 q1) fun us s2 ⟨xs, H2, I2, r2, q2⟩ => ⟨x :: xs, H2, I2, .cons r1 r2, q2⟩

/-- a tuple, a list of written items -/
def tTup (t : TA) : TE := fun σ H Q => t σ H fun xs H1 => xs.length ≤ sizeLine ∧ ∀ p, H1 p = none → Q (.ref p) (upd H1 p (.tup xs))
def tLst (t : TA) : TE := fun σ H Q => t σ H fun xs H1 => xs.length ≤ sizeLine ∧ ∀ p, H1 p = none → Q (.ref p) (upd H1 p (.lst xs))
theorem pe_tup {x1} (h : PA X es t) : PE X (.Tuple es x1 pos) (tTup t) := by
  intro pins s σ H Q I hq
  refine wpAny_Tuple_spliced (thn (h pos pins s σ H _ I hq) fun us s1 ⟨xs, H1, I1, r, z, q⟩ => ⟨by rw [← r.length]; exact z, ?_⟩)
  have hf : H1 s1.heap.objs.size = none := I1.hok.fresh (Nat.le_refl _)
  refine ⟨.ref s1.heap.objs.size, upd H1 s1.heap.objs.size (.tup xs), I1.laid (t' := s1.toks) (fun b u e => Heap.get?_push_of_some _ e) (Nat.le_refl _) ?_, rfl, q _ hf⟩
  exact ⟨z, us, r, ⟨_, Heap.get?_push_size _ rfl, rfl, _, rfl⟩⟩
theorem pe_lst (h : PA X es t) : PE X (.List es pos) (tLst t) := by
  intro pins s σ H Q I hq
  refine wpAny_List_spliced (thn (h pos pins s σ H _ I hq) fun us s1 ⟨xs, H1, I1, r, z, q⟩ => ⟨by rw [← r.length]; exact z, ?_⟩)
  have hf : H1 s1.heap.objs.size = none := I1.hok.fresh (Nat.le_refl _)
  refine ⟨.ref s1.heap.objs.size, upd H1 s1.heap.objs.size (.lst xs), I1.laid (t' := s1.toks) (fun b u e => Heap.get?_push_of_some _ e) (Nat.le_refl _) ?_, rfl, q _ hf⟩
  exact ⟨z, us, 0, r, Heap.get?_push_size _ rfl⟩
end

/-! ### what a def promises -/
/-- a def's promise: the bound arguments in the parameters' order, the heap, the wanted end, the wanted exception -/
abbrev Sp := List V → Hp → VK → XK → Prop
/-- how an exception lies behind a call (file 08 gives it): the callers' frames, abstract heap and state ahead of the call, the wish, the exception, the state -/
abbrev CXT := List Env → Hp → Shared → XK → Value → Shared → Prop

/-- the state at a call -/
structure Env0 (P : Program) (w : World) (K : PySem.W.Frag) (mg : Str → Option Value) (base : Heap) (A : Around) (outer : List Env) (s : Shared) (H : Hp) : Prop where
  frames : A.frames = some outer
  mod : Mod K mg base
  bs : ∀ b o, base.get? b = some o → s.heap.get? b = some o ∧ H b = none
  bsz : base.objs.size ≤ s.heap.objs.size
  funs : s.heap.FunFrames base outer
  frf : ∀ b ∈ frs outer, H b = none
  hok : HOk P w H s.heap
  bare : AllBare s.gens
/-- a call's end -/
def CE (outer : List Env) (P : Program) (w : World) (H : Hp) (s : Shared) (Q : VK) (u : Value) (s' : Shared) : Prop :=
  ∃ v H', s'.os = s.os ∧ AllBare s'.gens ∧ Un (frs outer) [] H H' s.heap s'.heap ∧ HOk P w H' s'.heap ∧ RelV v u ∧ Q v H'
def CR (CX : CXT) (outer : List Env) (P : Program) (w : World) (H : Hp) (s : Shared) (Q : VK) (E : XK) (r : Result) (s' : Shared) : Prop :=
  match r with
  | .ok (.ret u) => CE outer P w H s Q u s'
  | .ok _ => False
  | .error e => CX outer H s E e s'
structure FnOk (P : Program) (w : World) (K : PySem.W.Frag) (mg : Str → Option Value) (base : Heap) (CX : CXT) (k : Nat) (f : Addr) (fd : FuncData) (ps : List Str) (sp : Sp) : Prop where
  len : ∀ vs H Q E, sp vs H Q E → vs.length = ps.length
  run : ∀ (A : Around) (outer : List Env) (s : Shared) (H : Hp) (args : Args) (us : List Value) (vs : List V) (Q : VK) (E : XK), Room k A → Env0 P w K mg base A outer s H → BindsTo s fd args (ps.zip us) → Vals vs us → sp vs H Q E →
    codeAny (model P w) A (.call (.ref f) args) (CR CX outer P w H s Q E) s
theorem FnOk.mono {P : Program} {w : World} {K : PySem.W.Frag} {mg : Str → Option Value} {base : Heap} {CX : CXT} {j k : Nat} {f : Addr} {fd : FuncData} {ps : List Str} {sp : Sp} (F : FnOk P w K mg base CX j f fd ps sp) (h : j ≤ k) :
    FnOk P w K mg base CX k f fd ps sp := ⟨F.len, fun A outer s H args us vs Q E hr => F.run A outer s H args us vs Q E (hr.mono h)⟩
/-- a weaker promise -/
theorem FnOk.imp {P : Program} {w : World} {K : PySem.W.Frag} {mg : Str → Option Value} {base : Heap} {CX : CXT} {k : Nat} {f : Addr} {fd : FuncData} {ps : List Str} {sp sp' : Sp} (F : FnOk P w K mg base CX k f fd ps sp)
    (h : ∀ vs H Q E, sp' vs H Q E → sp vs H Q E) : FnOk P w K mg base CX k f fd ps sp' :=
  ⟨fun vs H Q E q => F.len vs H Q E (h _ _ _ _ q), fun A outer s H args us vs Q E hr he hb hv hs => F.run A outer s H args us vs Q E hr he hb hv (h _ _ _ _ hs)⟩

theorem Env0.make {P : Program} {w : World} {K : PySem.W.Frag} {mg : Str → Option Value} {base : Heap} {A : Around} {outer : List Env} {s : Shared} {H : Hp} (e : Env0 P w K mg base A outer s H) (C : Addr) (us : List Value) (kw : List (Str × Value)) :
    Env0 P w K mg base (A.under (.builtin "type.__call__" ⟨.ref C :: us, kw⟩)) outer s H := ⟨by first | exact e.frames | (simpa [Around.under, Code.envs, Code.isFrame, pushEnvs] using e.frames), e.mod, e.bs, e.bsz, e.funs, e.frf, e.hok, e.bare⟩
theorem Env0.in1 {P : Program} {w : World} {K : PySem.W.Frag} {mg : Str → Option Value} {base : Heap} {A : Around} {outer : List Env} {s : Shared} {H : Hp} (e : Env0 P w K mg base A outer s H) :
    Env0 P w K mg base A.in1 outer s H := ⟨e.frames, e.mod, e.bs, e.bsz, e.funs, e.frf, e.hok, e.bare⟩

section
variable {X : Cx} {pins : List (Addr × Obj)} {σ : St} {H : Hp} {s s' : Shared}
/-- from a body: what a callee wants -/
theorem Inv.env0 (I : Inv X pins σ H s) : Env0 X.prog X.w X.K X.mg X.base X.A X.stack s H :=
  ⟨I.ok.frames, I.ok.mod, I.bs, Nat.le_trans I.ok.bsz I.sz, I.stack, I.stkFree, I.hok, I.bare⟩
/-- behind a call -/
theorem Inv.after {Q : VK} {u : Value} (I : Inv X pins σ H s) (h : CE X.stack X.prog X.w H s Q u s') : EP X pins σ Q u s' := by
  obtain ⟨v, H', os, bare, un, hok, r, q⟩ := h
  obtain ⟨hh, g, d, t, os'⟩ := s'
  obtain rfl : os' = s.os := os
  exact ⟨v, H', I.call (h' := hh) (g' := g) (d' := d) (t' := t) (ch := []) un hok bare (fun b z => absurd z (by simp)), r, q⟩
end

/-! ### calls -/
/-- f(..): the written arguments, then the defaults dvs; E: what is wanted of an exception -/
def tCall (sp : Sp) (dvs : List V) (E : XK) (t : TA) : TE := fun σ H Q => t σ H fun vs H1 => sp (vs ++ dvs) H1 Q E
/-- o.m(..) of an instance of the class at C -/
def tMeth (C : Addr) (m : Str) (sp : Sp) (dvs : List V) (E : XK) (ta : TE) (t : TA) : TE := fun σ H Q => ta σ H fun x H1 => ∃ a dx fs, x = .ref a ∧ H1 a = some (.ins C dx fs) ∧ fs.lookup m = none ∧
  t σ H1 fun vs H2 => sp (x :: (vs ++ dvs)) H2 Q E
/-- C(..): a new instance and its dict, then __init__ -/
def tMake (C : Addr) (sp : Sp) (dvs : List V) (E : XK) (t : TA) : TE := fun σ H Q => t σ H fun vs H1 => ∀ x dx, H1 x = none → H1 dx = none → dx ≠ x →
  sp (.ref x :: (vs ++ dvs)) (upd (upd H1 dx (.own x)) x (.ins C dx [])) (fun v H2 => v = .non ∧ Q (.ref x) H2) E

/-- how the parameters are bound: us the positional arguments, kw the keywords' values by name, ds the defaults that fill up -/
def Binds (K : PySem.W.Frag) (fd : FuncData) (ps : List Str) (ds : List Value) : Prop :=
  ∀ (s : Shared) (us : List Value), K.In s.heap → (us ++ ds).length = ps.length → BindsTo s fd ⟨us, []⟩ (ps.zip (us ++ ds))
/-- every parameter is given -/
theorem Binds.all {K : PySem.W.Frag} {fd : FuncData} {ps : List Str} (h : ∀ us : List Value, us.length = ps.length → bindArgs fd ⟨us, []⟩ = pure (ps.zip us)) : Binds K fd ps [] := fun s us _ hl => by
  rw [List.append_nil] at hl ⊢
  exact .of_eq (h us hl)

/-- an exception of a callee reaches what this body wants of exceptions -/
def Passes (CX : CXT) (X : Cx) (E : XK) : Prop := ∀ (pins : List (Addr × Obj)) (σ : St) (H : Hp) (s : Shared) (e : Value) (s' : Shared), Inv X pins σ H s → CX X.stack H s E e s' → X.xe e s'

section
variable {X : Cx} {CX : CXT} {k : Nat} {f C : Addr} {fd : FuncData} {ps : List Str} {sp : Sp} {dvs : List V} {ds : List Value} {E : XK} {x m : Str} {p pos apos : Pos} {e o : Expr} {es : List Expr} {ta : TE} {t : TA}

/-- the callee runs -/
theorem run_fn {pins : List (Addr × Obj)} {σ : St} {H : Hp} {s : Shared} {Q : VK} {us : List Value} {vs : List V} (F : FnOk X.prog X.w X.K X.mg X.base CX k f fd ps sp) (hr : Room k X.A) (hb : Binds X.K fd ps ds) (hd : Vals dvs ds) (hx : Passes CX X E)
    (I : Inv X pins σ H s) (r : Vals vs us) (h : sp (vs ++ dvs) H Q E) : wpAny (model X.prog X.w) X.A (call (.ref f) us) (EP X pins σ Q) X.xe s := by
  have r2 : Vals (vs ++ dvs) (us ++ ds) := r.append hd
  have hl : (us ++ ds).length = ps.length := by rw [← r2.length]; exact F.len _ _ _ _ h
  refine wpAny_call (codeAny_mono (F.run X.A X.stack s H ⟨us, []⟩ (us ++ ds) (vs ++ dvs) Q E hr I.env0 (hb s us I.kIn hl) r2 h) fun r s' hq => ?_)
  cases r with
  | error e => exact hx pins σ H s e s' I hq
  | ok fl =>
    cases fl with
    | ret u => exact I.after hq
    | next => exact False.elim hq
    | brk => exact False.elim hq
    | cont => exact False.elim hq

theorem pe_call (F : FnOk X.prog X.w X.K X.mg X.base CX k f fd ps sp) (hr : Room k X.A) (hg : Gl X x) (hm : X.mg x = some (.ref f)) (hk : PySem.W.keepIn X.K (.ref f) = true) (hb : Binds X.K fd ps ds) (hd : Vals dvs ds) (hx : Passes CX X E)
    (ha : PA X (e :: es) t) (hdb : (x == ("__debug__" : Str)) = false := by decide) (he : starEach (e :: es) X.env = (false, eval e X.env) :: starEach es X.env := by rfl) (hpl : (backTo pos (starEach es X.env)).any (·.1) = false := by rfl) :
    PE X (.Call (.Name x p) (e :: es) [] pos) (tCall sp dvs E t) := by
  intro pins s σ H Q I h
  refine wpAny_Call_Name_kw (ld_glob I hg hm ?_ hdb)
  refine PySem.W.callWith_K (h₀ := X.base) I.ok.mod.kin hk (thn (ha pos pins s σ H _ I h) fun us s1 ⟨vs, H1, I1, r, q⟩ => ⟨I1.kIn, ?_⟩) he hpl
  exact run_fn F hr hb hd hx I1 r q
theorem pe_call0 (F : FnOk X.prog X.w X.K X.mg X.base CX k f fd ps sp) (hr : Room k X.A) (hg : Gl X x) (hm : X.mg x = some (.ref f)) (hk : PySem.W.keepIn X.K (.ref f) = true) (hb : Binds X.K fd ps ds) (hd : Vals dvs ds) (hx : Passes CX X E)
    (hdb : (x == ("__debug__" : Str)) = false := by decide) : PE X (.Call (.Name x p) [] [] pos) (tCall sp dvs E tNil) := by
  intro pins s σ H Q I h
  refine wpAny_Call_Name_kw (ld_glob I hg hm ?_ hdb)
  exact PySem.W.callWith_K0 I.kIn hk (run_fn (us := []) F hr hb hd hx I .nil h)

/-- o.m(e, ..) -/
theorem pe_meth {pl : Sem Bool} (he : PE X o ta) (c : Cls X.K C) (hm : Meth X.K C m f) (F : FnOk X.prog X.w X.K X.mg X.base CX k f fd ps sp) (hr : Room k X.A) (hb : Binds X.K fd ps ds) (hd : Vals dvs ds) (hx : Passes CX X E) (ha : PA X (e :: es) t)
    (hst : starEach (e :: es) X.env = (false, eval e X.env) :: starEach es X.env := by rfl) (hpl : (backTo pos (starEach es X.env)).any (·.1) = false := by rfl)
    (ht : eval (.Call (.Attribute o m apos) (e :: es) [] pos) X.env = (do
      let ov ← eval o X.env
      standAt apos.atName
      let (f, first) ← holding [ov] (getMethod ov m pl)
      callWith pos f first (backTo pos (starEach (e :: es) X.env)) (backToKw pos (keywordEach [] X.env))) := by rfl) :
    PE X (.Call (.Attribute o m apos) (e :: es) [] pos) (tMeth C m sp dvs E ta t) := by
  intro pins s σ H Q I h
  refine PySem.W.methodCall_KW (pl := pl) (thn (he pins s σ H _ I h) fun u s1 ⟨x, H1, I1, rx, a, dx, fs, ex, ea, l, q⟩ => ?_) ht
  subst ex
  obtain rfl : u = Value.ref a := rx
  refine getmeth_ok I1 ea c hm l ?_
  refine PySem.W.callWith_K (first := [.ref a]) (h₀ := X.base) I.ok.mod.kin hm.kp (thn (ha pos pins s1 σ H1 _ I1 q) fun us s2 ⟨vs, H2, I2, r, q2⟩ => ⟨I2.kIn, ?_⟩) hst hpl
  exact run_fn (us := .ref a :: us) (vs := .ref a :: vs) F hr hb hd hx I2 (.cons rfl r) q2
/-- o.m() -/
theorem pe_meth0 {pl : Sem Bool} (he : PE X o ta) (c : Cls X.K C) (hm : Meth X.K C m f) (F : FnOk X.prog X.w X.K X.mg X.base CX k f fd ps sp) (hr : Room k X.A) (hb : Binds X.K fd ps ds) (hd : Vals dvs ds) (hx : Passes CX X E)
    (ht : eval (.Call (.Attribute o m apos) [] [] pos) X.env = (do
      let ov ← eval o X.env
      standAt apos.atName
      let (f, first) ← holding [ov] (getMethod ov m pl)
      callWith pos f first (backTo pos (starEach [] X.env)) (backToKw pos (keywordEach [] X.env))) := by rfl) :
    PE X (.Call (.Attribute o m apos) [] [] pos) (tMeth C m sp dvs E ta tNil) := by
  intro pins s σ H Q I h
  refine PySem.W.methodCall_KW (pl := pl) (thn (he pins s σ H _ I h) fun u s1 ⟨x, H1, I1, rx, a, dx, fs, ex, ea, l, q⟩ => ?_) ht
  subst ex
  obtain rfl : u = Value.ref a := rx
  refine getmeth_ok I1 ea c hm l ?_
  exact PySem.W.callWith_K0 (first := [.ref a]) I1.kIn hm.kp (run_fn (us := [.ref a]) (vs := [.ref a]) F hr hb hd hx I1 (.cons rfl .nil) q)

/-- what a class must have to be made -/
structure Mk (K : PySem.W.Frag) (C f : Addr) : Prop where
  makes : PySem.W.makesIn K C = true
  init : PySem.W.findIn K (.ref C) "__init__" = some (some (.ref f))
  fn : PySem.W.isFn K (.ref f) = true
  kp : PySem.W.keepIn K (.ref C) = true

theorem run_make {pins : List (Addr × Obj)} {σ : St} {H : Hp} {s : Shared} {Q : VK} {us : List Value} {vs : List V} (M : Mk X.K C f) (F : FnOk X.prog X.w X.K X.mg X.base CX k f fd ps sp) (hr : Room (k + 1) X.A) (hb : Binds X.K fd ps ds) (hd : Vals dvs ds)
    (hx : Passes CX X E) (I : Inv X pins σ H s) (r : Vals vs us)
    (h : ∀ x dx, H x = none → H dx = none → dx ≠ x → sp (.ref x :: (vs ++ dvs)) (upd (upd H dx (.own x)) x (.ins C dx [])) (fun v H2 => v = .non ∧ Q (.ref x) H2) E) :
    wpAny (model X.prog X.w) X.A (call (.ref C) us) (EP X pins σ Q) X.xe s := by
  have hq := h (s.heap.objs.size + 1) s.heap.objs.size (I.hok.fresh (Nat.le_succ _)) (I.hok.fresh (Nat.le_refl _)) (Nat.ne_of_lt (Nat.lt_succ_self _))
  have I2 := Inv.made (C := C) I
  have r2 : Vals (V.ref (s.heap.objs.size + 1) :: (vs ++ dvs)) (Value.ref (s.heap.objs.size + 1) :: (us ++ ds)) := .cons rfl (r.append hd)
  have hl : (Value.ref (s.heap.objs.size + 1) :: us ++ ds).length = ps.length := by
    have e := r2.length
    rw [F.len _ _ _ _ hq] at e
    exact e.symm
  refine wpAny_call (make_map (f := f) I.kIn M.makes M.init (beq_iff_eq.mp M.fn) (codeAny_mono (F.run _ X.stack _ _ ⟨Value.ref (s.heap.objs.size + 1) :: us, []⟩ (Value.ref (s.heap.objs.size + 1) :: (us ++ ds)) _ _ E (hr.make C us [])
    (I2.env0.make C us []) (hb _ (Value.ref (s.heap.objs.size + 1) :: us) I2.kIn hl) r2 hq) fun r s' hq' => ?_))
  cases r with
  | error e => exact hx pins σ _ _ e s' I2 hq'
  | ok fl =>
    cases fl with
    | ret u =>
      obtain ⟨v, H', I3, rv, ev, q3⟩ := I2.after hq'
      subst ev
      exact ⟨rv, ⟨V.ref (s.heap.objs.size + 1), H', I3, rfl, q3⟩⟩
    | next => exact False.elim hq'
    | brk => exact False.elim hq'
    | cont => exact False.elim hq'
theorem pe_make (M : Mk X.K C f) (F : FnOk X.prog X.w X.K X.mg X.base CX k f fd ps sp) (hr : Room (k + 1) X.A) (hg : Gl X x) (hm : X.mg x = some (.ref C)) (hb : Binds X.K fd ps ds) (hd : Vals dvs ds) (hx : Passes CX X E)
    (ha : PA X (e :: es) t) (hdb : (x == ("__debug__" : Str)) = false := by decide) (he : starEach (e :: es) X.env = (false, eval e X.env) :: starEach es X.env := by rfl) (hpl : (backTo pos (starEach es X.env)).any (·.1) = false := by rfl) :
    PE X (.Call (.Name x p) (e :: es) [] pos) (tMake C sp dvs E t) := by
  intro pins s σ H Q I h
  refine wpAny_Call_Name_kw (ld_glob I hg hm ?_ hdb)
  refine PySem.W.callWith_K (h₀ := X.base) I.ok.mod.kin M.kp (thn (ha pos pins s σ H _ I h) fun us s1 ⟨vs, H1, I1, r, q⟩ => ⟨I1.kIn, ?_⟩) he hpl
  exact run_make M F hr hb hd hx I1 r q
theorem pe_make0 (M : Mk X.K C f) (F : FnOk X.prog X.w X.K X.mg X.base CX k f fd ps sp) (hr : Room (k + 1) X.A) (hg : Gl X x) (hm : X.mg x = some (.ref C)) (hb : Binds X.K fd ps ds) (hd : Vals dvs ds) (hx : Passes CX X E)
    (hdb : (x == ("__debug__" : Str)) = false := by decide) : PE X (.Call (.Name x p) [] [] pos) (tMake C sp dvs E tNil) := by
  intro pins s σ H Q I h
  refine wpAny_Call_Name_kw (ld_glob I hg hm ?_ hdb)
  exact PySem.W.callWith_K0 I.kIn M.kp (run_make (us := []) M F hr hb hd hx I .nil h)
end

/-! ### keywords -/
/-- the values of the keywords, from the left -/
def PK (X : Cx) (kws : List Keyword) (t : TA) : Prop :=
  ∀ (pos : Pos) (pins : List (Addr × Obj)) (s : Shared) (σ : St) (H : Hp) (Q : List V → Hp → Prop), Inv X pins σ H s → t σ H Q → wpAny (model X.prog X.w) X.A (evalAll ((backToKw pos (keywordEach kws X.env)).map (·.2))) (AP X pins σ Q) X.xe s
section
variable {X : Cx} {CX : CXT} {k : Nat} {f C : Addr} {fd : FuncData} {ps ks : List Str} {sp : Sp} {E : XK} {x m : Str} {p pos apos kpos : Pos} {e o : Expr} {es : List Expr} {kws : List Keyword} {te ta : TE} {t tk : TA} {nm : Option Str}
theorem pk_nil : PK X [] tNil := fun _ _ _ _ H Q I h => wpAny_evalAll_nil ⟨[], H, I, .nil, h⟩
theorem pk_cons (ha : PE X e te) (hr : PK X kws t) : PK X (⟨nm, e, kpos⟩ :: kws) (tCons te t) := by
  intro pos pins s σ H Q I h
  show wpAny _ _ (evalAll ((do let v ← eval e X.env; standAt pos; pure v) :: (backToKw pos (keywordEach kws X.env)).map (·.2))) _ _ s
  refine wpAny_evalAll_cons (wpAny_bind (thn (ha pins s σ H _ I h) fun u s1 ⟨x, H1, I1, r1, q1⟩ => wpAny_bind (wpAny_standAt (wpAny_pure ?_))))
  exact thn (hr pos pins s1 σ H1 _ I1 q1) fun us s2 ⟨xs, H2, I2, r2, q2⟩ => ⟨x :: xs, H2, I2, .cons r1 r2, q2⟩

/-- how a call with keywords binds: g puts the positional values us and the keywords' values ws (names ks) in the parameters' order, defaults among them -/
structure KBinds (K : PySem.W.Frag) (fd : FuncData) (ps ks : List Str) (g : List Value → List Value → List Value) (gV : List V → List V → List V) : Prop where
  to : ∀ (s : Shared) (us ws : List Value), K.In s.heap → (g us ws).length = ps.length → BindsTo s fd ⟨us, ks.zip ws⟩ (ps.zip (g us ws))
  rel : ∀ {vs : List V} {us : List Value} {zs : List V} {ws : List Value}, Vals vs us → Vals zs ws → Vals (gV vs zs) (g us ws)
def tCallK (sp : Sp) (gV : List V → List V → List V) (E : XK) (t tk : TA) : TE := fun σ H Q => t σ H fun vs H1 => tk σ H1 fun zs H2 => sp (gV vs zs) H2 Q E
variable {g : List Value → List Value → List Value} {gV : List V → List V → List V}
theorem run_fnk {pins : List (Addr × Obj)} {σ : St} {H : Hp} {s : Shared} {Q : VK} {us ws : List Value} {vs zs : List V} (F : FnOk X.prog X.w X.K X.mg X.base CX k f fd ps sp) (hr : Room k X.A) (hb : KBinds X.K fd ps ks g gV) (hx : Passes CX X E)
    (I : Inv X pins σ H s) (r : Vals vs us) (rz : Vals zs ws) (h : sp (gV vs zs) H Q E) : wpAny (model X.prog X.w) X.A (call (.ref f) us (ks.zip ws)) (EP X pins σ Q) X.xe s := by
  have r2 := hb.rel r rz
  have hl : (g us ws).length = ps.length := by rw [← r2.length]; exact F.len _ _ _ _ h
  refine wpAny_call (codeAny_mono (F.run X.A X.stack s H ⟨us, ks.zip ws⟩ (g us ws) (gV vs zs) Q E hr I.env0 (hb.to s us ws I.kIn hl) r2 h) fun r s' hq => ?_)
  cases r with
  | error e => exact hx pins σ H s e s' I hq
  | ok fl =>
    cases fl with
    | ret u => exact I.after hq
    | next => exact False.elim hq
    | brk => exact False.elim hq
    | cont => exact False.elim hq
/-- f(e, .., k = v, ..) -/
theorem pe_callK (F : FnOk X.prog X.w X.K X.mg X.base CX k f fd ps sp) (hr : Room k X.A) (hg : Gl X x) (hm : X.mg x = some (.ref f)) (hk : PySem.W.keepIn X.K (.ref f) = true) (hb : KBinds X.K fd ps ks g gV) (hx : Passes CX X E)
    (ha : PA X (e :: es) t) (hkw : PK X kws tk) (hall : (backToKw pos (keywordEach kws X.env)).all (·.1.isSome) = true := by rfl) (hks : (backToKw pos (keywordEach kws X.env)).filterMap (·.1) = ks := by rfl)
    (hdb : (x == ("__debug__" : Str)) = false := by decide) (he : starEach (e :: es) X.env = (false, eval e X.env) :: starEach es X.env := by rfl)
    (hpl : ((backTo pos (starEach (e :: es) X.env)).any (·.1) || (backToKw pos (keywordEach kws X.env)).any (·.1.isNone)) = false := by rfl) :
    PE X (.Call (.Name x p) (e :: es) kws pos) (tCallK sp gV E t tk) := by
  intro pins s σ H Q I h
  refine wpAny_Call_Name_kw (ld_glob I hg hm ?_ hdb)
  refine PySem.W.callWith_KW (h₀ := X.base) I.ok.mod.kin hk hall (thn (ha pos pins s σ H _ I h) fun us s1 ⟨vs, H1, I1, r, q⟩ => ?_) hpl he
  refine thn (hkw pos pins s1 σ H1 _ I1 q) fun ws s2 ⟨zs, H2, I2, rz, q2⟩ => ⟨I2.kIn, ?_⟩
  rw [hks]
  exact run_fnk F hr hb hx I2 r rz q2
end

/-! ### a def's body keeps its promise -/
/-- names: the parameters first -/
structure FnScope (N P : List Str) (sc : Scope) : Prop where
  kind : sc.kind = .function
  co : sc.isCoroutine = false
  gen : sc.isGenerator = false
  nd : N.Nodup
  pre : N.take P.length = P
  par : ∀ x ∈ P, sc.names.lookup x = some .local ∨ sc.names.lookup x = some .cell
  nofree : ∀ y ∈ sc.names, y.2 ≠ .free

theorem bindL_out {kindOf : Str → Option NameKind} {x : Str} : ∀ {binds : List (Str × Value)} {m : Str → Option Value}, (∀ v, (x, v) ∉ binds) → bindL kindOf binds m x = m x
  | [], _, _ => rfl
  | (n, v) :: r, m, h => by
    unfold bindL
    rw [bindL_out fun w hw => h w (List.mem_cons_of_mem _ hw)]
    split
    · have : x ≠ n := by rintro rfl; exact h v List.mem_cons_self
      simp [this]
    · rfl
theorem bindC_out {kindOf : Str → Option NameKind} {x : Str} : ∀ {binds : List (Str × Value)} {m : Str → Option Value}, (∀ v, (x, v) ∉ binds) → bindC kindOf binds m x = m x
  | [], _, _ => rfl
  | (n, v) :: r, m, h => by
    unfold bindC
    rw [bindC_out fun w hw => h w (List.mem_cons_of_mem _ hw)]
    split
    · rfl
    · have : x ≠ n := by rintro rfl; exact h v List.mem_cons_self
      simp [this]
theorem bindL_get {kindOf : Str → Option NameKind} {x : Str} {v : Value} : ∀ {P : List Str} {vs : List Value} {i : Nat} {m : Str → Option Value}, P.Nodup → P[i]? = some x → vs[i]? = some v → kindOf x = some .local →
    bindL kindOf (P.zip vs) m x = some v
  | [], _, _, _, _, h, _, _ => by simp at h
  | _ :: _, [], _, _, _, _, h, _ => by simp at h
  | p :: P, w :: vs, 0, m, nd, h1, h2, hk => by
    simp at h1 h2; subst h1; subst h2
    show bindL kindOf ((p, w) :: P.zip vs) m p = _
    unfold bindL
    rw [bindL_out fun v hv => (List.nodup_cons.mp nd).1 (List.of_mem_zip hv).1, if_pos hk]
    simp
  | p :: P, w :: vs, i + 1, m, nd, h1, h2, hk => by
    show bindL kindOf ((p, w) :: P.zip vs) m x = _
    unfold bindL
    exact bindL_get (i := i) (List.nodup_cons.mp nd).2 (by simpa using h1) (by simpa using h2) hk
theorem bindC_get {kindOf : Str → Option NameKind} {x : Str} {v : Value} : ∀ {P : List Str} {vs : List Value} {i : Nat} {m : Str → Option Value}, P.Nodup → P[i]? = some x → vs[i]? = some v → kindOf x ≠ some .local →
    bindC kindOf (P.zip vs) m x = some v
  | [], _, _, _, _, h, _, _ => by simp at h
  | _ :: _, [], _, _, _, _, h, _ => by simp at h
  | p :: P, w :: vs, 0, m, nd, h1, h2, hk => by
    simp at h1 h2; subst h1; subst h2
    show bindC kindOf ((p, w) :: P.zip vs) m p = _
    unfold bindC
    rw [bindC_out fun v hv => (List.nodup_cons.mp nd).1 (List.of_mem_zip hv).1, if_neg hk]
    simp
  | p :: P, w :: vs, i + 1, m, nd, h1, h2, hk => by
    show bindC kindOf ((p, w) :: P.zip vs) m x = _
    unfold bindC
    exact bindC_get (i := i) (List.nodup_cons.mp nd).2 (by simpa using h1) (by simpa using h2) hk

/-- the names' values at the entry -/
def start (N : List Str) (vs : List V) : St := vs.map some ++ List.replicate (N.length - vs.length) none

/-- the context of a def's body, at its entry; an exception leaves the frame, then lies as CX says -/
def cxOf (CX : CXT) (P : Program) (w : World) (K : PySem.W.Frag) (mg : Str → Option Value) (base : Heap) (N : List Str) (qual : Str) (scope : Scope) (f : Addr) (cd : Value) (A : Around) (outer : List Env) (s : Shared) (H : Hp) (E : XK) : Cx where
  prog := P
  w := w
  K := K
  mg := mg
  base := base
  A := A.deeper (envOfC qual scope s.heap.objs.size f cd)
  N := N
  s₀ := s
  H₀ := H
  env := envOfC qual scope s.heap.objs.size f cd
  outer := outer
  stack := envOfC qual scope s.heap.objs.size f cd :: outer
  ex := []
  calm := true
  fn := fun _ => true
  pn := []
  xe := fun e s' => wpAny (model P w) (A.deeper (envOfC qual scope s.heap.objs.size f cd)) (leaving (envOfC qual scope s.heap.objs.size f cd) e) (fun _ s'' => CX outer H s E e s'') (fun e' s'' => CX outer H s E e' s'') s'

theorem cell_has {sc : Scope} {n : Nat} {x : Str} (h : sc.names.lookup x = some .cell) : ∃ c, (cellsFrom n sc.names []).lookup x = some c := by
  have q := PySem.W.cellsFrom_some sc.names n [] (.inl h)
  exact Option.isSome_iff_exists.mp q

theorem inv_start {CX : CXT} {P : Program} {w : World} {K : PySem.W.Frag} {mg : Str → Option Value} {base : Heap} {N ps : List Str} {qual : Str} {scope : Scope} {f : Addr} {cd : Value} {A : Around} {outer : List Env} {s s1 : Shared} {H : Hp} {E : XK} {us : List Value} {vs : List V}
    (S : FnScope N ps scope) (hd : A.handled = none) (e0 : Env0 P w K mg base A outer s H) (hl : vs.length = ps.length) (r : Vals vs us)
    (x : InCallC s s.heap.objs.size (bindL (envOfC qual scope s.heap.objs.size f cd).kindOf (ps.zip us) fun _ => none) (cellsFrom (s.heap.objs.size + 1) scope.names []) (bindC (envOfC qual scope s.heap.objs.size f cd).kindOf (ps.zip us) fun _ => none) s1) :
    Inv (cxOf CX P w K mg base N qual scope f cd A outer s H E) [] (start N vs) H s1 := by
  have hpl : ps.length ≤ N.length := by have := congrArg List.length S.pre; rw [List.length_take] at this; omega
  obtain ⟨h1, tk, rfl, hk⟩ := x.done
  have noA : ∀ b : Addr, b ∉ (cxOf CX P w K mg base N qual scope f cd A outer s H E).ex := fun b z => absurd (show b ∈ ([] : List Addr) from z) (by simp)
  refine ⟨⟨e0.mod, S.kind, rfl, rfl, Nat.le_refl _, fun y z c h1 h2 => ?_, fun y hy => ?_, fun y c _ h => ?_, fun _ => hd, Around.frames_deeper e0.frames, .inr ⟨rfl, rfl⟩, fun b z => absurd z (noA b), e0.bs, e0.bsz, fun b _ _ => noA b, fun b z => absurd z (noA b), e0.funs, e0.frf⟩,
    rfl, e0.bare, Un.kept hk, ⟨_, x.toInCall.ns, fun i y v h1 h2 h3 => ?_⟩, fun y c h => ⟨_, x.cell y c h⟩, e0.hok.fresh (Nat.le_refl _), fun y c h => ?_, fun p hp => absurd (show p ∈ ([] : List (Addr × Obj)) from hp) (by simp), e0.hok.kept hk, ?_⟩
  · exact name_of_addr x.apart (PySem.mem_of_lookup h1) (PySem.mem_of_lookup h2)
  · have hy : scope.names.lookup y = some .cell ∨ scope.names.lookup y = some .free := hy
    rcases hy with hy | hy
    · exact cell_has hy
    · exact absurd rfl (S.nofree _ (PySem.mem_of_lookup hy))
  · exact Nat.le_of_lt (x.above y c (PySem.mem_of_lookup h))
  · have hi : i < vs.length := by
      unfold start at h2
      by_cases hi : i < vs.length
      · exact hi
      · rw [List.getElem?_append_right (by simpa using hi)] at h2
        rw [List.getElem?_replicate] at h2
        split at h2 <;> cases h2
    have ha : vs[i]? = some v := by
      unfold start at h2
      rw [List.getElem?_append_left (by simpa using hi), List.getElem?_map] at h2
      cases e : vs[i]? with
      | none => rw [e] at h2; cases h2
      | some a => rw [e] at h2; cases h2; rfl
    obtain ⟨u, hu, rv⟩ := r.get ha
    have hp : ps[i]? = some y := by
      rw [← S.pre, List.getElem?_take_of_lt (by omega)]; exact h1
    have ndP : ps.Nodup := by rw [← S.pre]; exact S.nd.sublist (List.take_sublist _ _)
    refine ⟨u, rv, ?_⟩
    rcases S.par y (List.mem_of_getElem? hp) with k | k
    · exact .inl ⟨k, bindL_get ndP hp hu k⟩
    · obtain ⟨c, e⟩ := cell_has (n := s.heap.objs.size + 1) k
      refine .inr ⟨.inl k, c, e, ?_⟩
      have q := x.cell y c e
      rw [bindC_get ndP hp hu (by show scope.names.lookup y ≠ _; rw [k]; decide)] at q
      exact q
  · exact e0.hok.fresh (Nat.le_of_lt (x.above y c (PySem.mem_of_lookup h)))
  · unfold start
    show _ = N.length
    rw [List.length_append, List.length_map, List.length_replicate]
    omega

/-- THE RULE: a def (or a method) of the text, by its body. The body's reading t is chosen for each entry; it is run at the parameters' values -/
theorem fn_of {CX : CXT} {P : Program} {w : World} {K : PySem.W.Frag} {mg : Str → Option Value} {base : Heap} {k : Nat} {f : Addr} {name qual : Str} {params : Arguments} {body : List Stmt} {scope : Scope} {dV kV doc pm cdv ct oc : Value} {an od : Option Addr}
    {osl : Array (Option Value)} {N ps : List Str} {sp : Sp} (lk : K.lookup f = some ⟨oc, od, .func (PySem.W.fnOf name qual params body scope dV kV doc pm an cdv ct), osl⟩) (hcd : PySem.W.codeIn K cdv qual = true) (S : FnScope N ps scope)
    (len : ∀ vs H Q E, sp vs H Q E → vs.length = ps.length)
    (hbody : ∀ (A : Around) (outer : List Env) (s : Shared) (H : Hp) (vs : List V) (Q : VK) (E : XK), Room k (A.deeper (envOfC qual scope s.heap.objs.size f cdv)) → sp vs H Q E →
      ∃ t, PSs (cxOf CX P w K mg base N qual scope f cdv A outer s H E) body t ∧ t { nx := fun _ H' => Q .non H', rt := Q } (start N vs) H) :
    FnOk P w K mg base CX (k + 1) f (PySem.W.fnOf name qual params body scope dV kV doc pm an cdv ct) ps sp := by
  refine ⟨len, fun A outer s H args us vs Q E hr e0 hb r hsp => ?_⟩
  have hl := len _ _ _ _ hsp
  have KX : K.In s.heap := e0.mod.kin.keeps fun b o e => (e0.bs b o e).1
  have lim : s.heap.NoLimit := e0.mod.nolimit.keeps fun b o e => (e0.bs b o e).1
  have hkind : ∀ y ∈ ps.zip us, scope.names.lookup y.1 = some .local ∨ (scope.names.lookup y.1 = some .cell ∧ ((cellsFrom (s.heap.objs.size + 1) scope.names []).lookup y.1).isSome = true) := fun ⟨n, v⟩ hy => by
    rcases S.par n (List.of_mem_zip hy).1 with q | q
    · exact .inl q
    · exact .inr ⟨q, PySem.W.cellsFrom_some _ _ _ (.inl q)⟩
  refine codeAny_call_function hr.depth (KX _ _ lk) rfl S.co S.gen rfl (PySem.W.codeRec_of KX hcd) (hb _ _ _ _ ?_)
  refine wpAny_newFunctionEnv_cells S.kind hkind fun env he s1 x => ?_
  subst he
  refine ⟨lim.keeps x.toInCall.keep, codeAny_func ?_⟩
  obtain ⟨t, ht, hq⟩ := hbody A outer s H vs Q E (hr.deeper _) hsp
  have I : Inv (cxOf CX P w K mg base N qual scope f cdv A outer s H E) [] (start N vs) H s1 := inv_start S hr.hd e0 hl r x
  refine wpAny_mono (ht [] s1 (start N vs) H _ I hq) (fun fl s' hs => ?_) fun e s' hs => hs
  have fin : ∀ {σ' : St} {H' : Hp} {v : V} {u : Value}, Inv (cxOf CX P w K mg base N qual scope f cdv A outer s H E) [] σ' H' s' → RelV v u → Q v H' → CE outer P w H s Q u s' :=
    fun {σ' H' v u} J rv q => ⟨v, H', J.os, J.bare, J.base, J.hok, rv, q⟩
  cases fl with
  | ret u =>
    obtain ⟨v, σ', H', J, rv, q⟩ := hs
    exact fin J rv q
  | next =>
    obtain ⟨σ', H', J, q⟩ := hs
    exact fin (v := V.non) (u := Value.none) J rfl q
  | brk =>
    obtain ⟨_, _, _, q⟩ := hs
    exact False.elim q
  | cont =>
    obtain ⟨_, _, _, q⟩ := hs
    exact False.elim q
end L2

namespace L2
open PySem PySem.Spec PyProof.Rows
section
variable {X : Cx} {x : Str} {p pos : Pos} {e : Expr} {es : List Expr} {t : TA} {id T : String} {r : List V → Hp → VK → Prop}

def tCB (r : List V → Hp → VK → Prop) (t : TA) : TE := fun σ H Q => t σ H fun vs H1 => r vs H1 Q
/-- f(e, ..), f a built-in function -/
theorem pe_callB (hc : CallR X (.builtin id) r) (hg : Gl X x) (hm : X.mg x = none) (hv : bootBuiltins x = some (.builtin id)) (ha : PA X (e :: es) t) (hn : x ≠ "__name__" := by decide) (hdb : (x == ("__debug__" : Str)) = false := by decide)
    (he : starEach (e :: es) X.env = (false, eval e X.env) :: starEach es X.env := by rfl) (hpl : (backTo pos (starEach es X.env)).any (·.1) = false := by rfl) : PE X (.Call (.Name x p) (e :: es) [] pos) (tCB r t) := by
  intro pins s σ H Q I h
  refine wpAny_Call_Name_kw (ld_blt I hg hm hv ?_ hn hdb)
  exact PyProof.Rows.callWith_builtin1 (thn (ha pos pins s σ H _ I h) fun us s1 ⟨vs, H1, I1, r1, q1⟩ => hc pins s1 σ H1 vs us Q I1 r1 q1) he hpl
/-- T(e, ..), T a built-in type -/
theorem pe_callTy (hc : CallR X (.type T) r) (hg : Gl X x) (hm : X.mg x = none) (hv : bootBuiltins x = some (.type T)) (ha : PA X (e :: es) t) (hn : x ≠ "__name__" := by decide) (hdb : (x == ("__debug__" : Str)) = false := by decide)
    (he : starEach (e :: es) X.env = (false, eval e X.env) :: starEach es X.env := by rfl) (hpl : (backTo pos (starEach es X.env)).any (·.1) = false := by rfl) : PE X (.Call (.Name x p) (e :: es) [] pos) (tCB r t) := by
  intro pins s σ H Q I h
  refine wpAny_Call_Name_kw (ld_blt I hg hm hv ?_ hn hdb)
  exact PyProof.Rows.callWith_type1 (thn (ha pos pins s σ H _ I h) fun us s1 ⟨vs, H1, I1, r1, q1⟩ => hc pins s1 σ H1 vs us Q I1 r1 q1) he hpl
/-- T() -/
theorem pe_callTy0 (hc : CallR X (.type T) r) (hg : Gl X x) (hm : X.mg x = none) (hv : bootBuiltins x = some (.type T)) (hn : x ≠ "__name__" := by decide) (hdb : (x == ("__debug__" : Str)) = false := by decide) :
    PE X (.Call (.Name x p) [] [] pos) (tCB r tNil) := by
  intro pins s σ H Q I h
  refine wpAny_Call_Name_kw (ld_blt I hg hm hv ?_ hn hdb)
  exact PyProof.Rows.callWith_type0 (hc pins s σ H [] [] Q I .nil h)
end
end L2

namespace HT
open PySem PyProof.Rows

/-- t < u of tuples of ints -/
def lexLt : List Int → List Int → Bool
  | [], [] => false
  | [], _ :: _ => true
  | _ :: _, [] => false
  | x :: xs, y :: ys => if x = y then lexLt xs ys else decide (x < y)
theorem lexLt_cons (x y : Int) (xs ys : List Int) : lexLt (x :: xs) (y :: ys) = if x = y then lexLt xs ys else decide (x < y) := rfl
theorem lexLt_nil_nil : lexLt [] [] = false := rfl
theorem lexLt_nil_cons (y : Int) (ys : List Int) : lexLt [] (y :: ys) = true := rfl
theorem lexLt_cons_nil (x : Int) (xs : List Int) : lexLt (x :: xs) [] = false := rfl

theorem eqAt_int (A : Around) (s : Shared) (a : Int) (t : Tok) (c : Int) (u : Tok) : ∃ e, SeqAt.EqAt A s (.int a t) (.int c u) e ∧ (e = true ↔ a = c) :=
  ⟨(a == c), SeqAt.EqAt.int_int a t c u, by simp⟩
theorem rcLt_int (A : Around) (s : Shared) (a : Int) (t : Tok) (c : Int) (u : Tok) (prog : Program) (w : World) (E : Value → Shared → Prop) (Q : Value → Shared → Prop) (h : Q (.bool (decide (a < c))) s) :
    wpAny (model prog w) A (richCompare .Lt (.int a t) (.int c u)) Q E s :=
  (PyProof.Rows.lt_int h : wpAny (model prog w) A (compareOp .Lt (.int a t) (.int c u)) Q E s)

section
open PySem.SeqAt
open PySem.AutoSeq1 (wpAny_loadPart')
open PySem.MeetsSeq PySem.MeetsSeq2 PySem.MeetsSeq3

theorem tuple_lt_ints (l b : Addr) (items items2 : Array Value) (n n2 : Nat) (dd dd2 : Option Addr) (sl sl2 : Array (Option Value)) (ns ms : List Int) (hi : IntsAre items.toList ns) (hj : IntsAre items2.toList ms) :
    Meets (Builtin.«tuple.__lt__» ⟨[.ref l, .ref b], []⟩)
      (fun _ R s => s.heap.get? l = some { cls := .type "tuple", dict := dd, data := .seq items n, slots := sl } ∧ s.heap.get? b = some { cls := .type "tuple", dict := dd2, data := .seq items2 n2, slots := sl2 } ∧
        R (.ok (.ret (.bool (lexLt ns ms)))) s) :=
  .of_wp fun prog w A R s h => by
    obtain ⟨hp, g, d, tk, os⟩ := s; obtain ⟨hl, hb, h⟩ := h
    have f2 := AutoSeq1.sub_tuple_tuple
    have z1 : items.size = ns.length := by rw [← hi.length]; simp
    have z2 : items2.size = ms.length := by rw [← hj.length]; simp
    wp_walk using wpAny_loadPart' hl, wpAny_loadPart' hb, wpAny_forIn_list _ (fun rest b s' => b.1 = none ∧ s' = ⟨hp, g, d, tk, os⟩ ∧ ∃ (vs ws : List Value) (ns' ms' : List Int), rest = vs.zip ws ∧
      IntsAre vs ns' ∧ IntsAre ws ms' ∧ ns'.length + items2.size = ms'.length + items.size ∧ R (.ok (.ret (.bool (lexLt ns' ms')))) ⟨hp, g, d, tk, os⟩) _
    case turn =>
      rintro ⟨y, x⟩ rest b s' ⟨hb', rfl, vs, ws, ns', ms', hz, hvi, hwi, hlen, hR⟩
      cases hvi with
      | nil => rw [List.zip_nil_left] at hz; cases hz
      | cons a t hvi' =>
        cases hwi with
        | nil => rw [List.zip_nil_right] at hz; cases hz
        | cons c u hwi' =>
          rw [List.zip_cons_cons] at hz
          injection hz with hyx hrest
          injection hyx with hy hx
          subst hy hx
          rw [lexLt_cons] at hR
          simp only [List.length_cons] at hlen
          obtain ⟨e, he, hiff⟩ := eqAt_int A.in1 ⟨hp, g, d, tk, os⟩ a t c u
          refine wpAny_bind (he prog w _ _ ?_)
          cases e with
          | true =>
            rw [if_pos (hiff.mp rfl)] at hR
            wp_walk
            exact ⟨rfl, rfl, _, _, _, _, hrest, hvi', hwi', by omega, hR⟩
          | false =>
            rw [if_neg (fun q => absurd (hiff.mpr q) Bool.false_ne_true)] at hR
            have hri := rcLt_int A.in1 ⟨hp, g, d, tk, os⟩ a t c u prog w
            wp_walk using hri
            exact ⟨_, rfl, by simpa using hR⟩
    case fin =>
      rintro ⟨b1, b2⟩ s' ⟨hb', rfl, vs, ws, ns', ms', hz, hvi, hwi, hlen, hR⟩
      simp only at hb'
      subst hb'
      have hv : lexLt ns' ms' = decide (items.size < items2.size) := by
        cases hvi with
        | nil =>
          cases hwi with
          | nil =>
            simp only [List.length_nil] at hlen
            rw [lexLt_nil_nil]
            exact (decide_eq_false (by omega)).symm
          | cons c u hw =>
            simp only [List.length_nil, List.length_cons] at hlen
            rw [lexLt_nil_cons]
            exact (decide_eq_true (by omega)).symm
        | cons a t hv =>
          cases hwi with
          | nil =>
            simp only [List.length_nil, List.length_cons] at hlen
            rw [lexLt_cons_nil]
            exact (decide_eq_false (by omega)).symm
          | cons c u hw =>
            rw [List.zip_cons_cons] at hz
            cases hz
      rw [hv] at hR
      wp_walk
      exact ⟨_, rfl, by simpa [Builtin.Tuple.tupleCompareSizes] using hR⟩
    case h =>
      exact ⟨rfl, rfl, items.toList, items2.toList, ns, ms, rfl, hi, hj, by omega, h⟩
end

section
variable {prog : Program} {w : World} {A : Around} {E : Value → Shared → Prop} {s : Shared}

theorem lt_tupInts {l b : Addr} {items items2 : Array Value} {ns ms : List Int} {Q : Value → Shared → Prop} (hl : IsTup s.heap l items) (hb : IsTup s.heap b items2) (hi : IntsAre items.toList ns) (hj : IntsAre items2.toList ms)
    (hu : A.units < cLine) (h : Q (.bool (lexLt ns ms)) s) : wpAny (model prog w) A (compareOp .Lt (.ref l) (.ref b)) Q E s := by
  obtain ⟨⟨cls, dd, data, sl⟩, ho, hc, n, hd⟩ := id hl
  obtain ⟨⟨cls2, dd2, data2, sl2⟩, ho2, hc2, n2, hd2⟩ := id hb
  simp only at hc hd hc2 hd2
  subst hc hd hc2 hd2
  exact richCompare_meets_room (op := .Lt) ⟨_, ho, rfl⟩ ⟨_, ho2, rfl⟩ PySem.F.slot_tuple_lt PySem.F.entry_tuple_lt (PySem.F.args_tuple_lt_2 _ _) (tuple_lt_ints l b items items2 n n2 dd dd2 sl sl2 ns ms hi hj)
    ⟨ho, ho2, show Value.bool (lexLt ns ms) ≠ Value.notImplemented ∧ Q (.bool (lexLt ns ms)) s from ⟨(fun x => nomatch x), h⟩⟩ hu

/-- t + u, t not empty -/
theorem cat_tup {t b : Addr} {vs ws : List Value} {Q : Value → Shared → Prop} (ht : IsTup s.heap t vs.toArray) (hb : IsTup s.heap b ws.toArray) (hv : vs ≠ [])
    (h1 : ws = [] → Q (.ref t) s) (h2 : ws ≠ [] → Q (.ref s.heap.objs.size) { s with heap := s.heap.push { cls := .type "tuple", data := .seq (vs ++ ws).toArray } })
    (hsz : vs.length + ws.length ≤ sizeLine) : wpAny (model prog w) A (binaryOp .Add (.ref t) (.ref b)) Q E s := by
  obtain ⟨⟨cls, dd, data, sl⟩, ho, hc, n, hd⟩ := id ht
  obtain ⟨⟨cls2, dd2, data2, sl2⟩, ho2, hc2, n2, hd2⟩ := id hb
  simp only at hc hd hc2 hd2
  subst hc hd hc2 hd2
  have e : vs.toArray ++ ws.toArray = (vs ++ ws).toArray := by simp
  by_cases hw : ws = []
  · exact concat_meets ⟨_, ho, rfl⟩ ⟨_, ho2, rfl⟩ noFill_tuple_add seq_tuple_add PySem.F.slot_tuple_add PySem.F.entry_tuple_add (PySem.F.args_tuple_add_2 _ _)
      (tuple_addW1 t b vs.toArray ws.toArray n n2 dd dd2 sl sl2 (by simpa using hv) (by simp [hw])) ⟨ho, ho2, h1 hw⟩
  · refine concat_meets ⟨_, ho, rfl⟩ ⟨_, ho2, rfl⟩ noFill_tuple_add seq_tuple_add PySem.F.slot_tuple_add PySem.F.entry_tuple_add (PySem.F.args_tuple_add_2 _ _)
      (tuple_addW2 t b vs.toArray ws.toArray n n2 dd dd2 sl sl2 (by simpa using hv) (by simpa using hw) (by rw [List.size_toArray, List.size_toArray]; exact hsz)) ⟨ho, ho2, ?_⟩
    rw [e]
    exact h2 hw

/-! ### t[a:b], not the whole -/
/-- a slice's bound as a place among n (d where it is left out) -/
def sIx (n d : Nat) : Option Int → Nat
  | none => d
  | some v => if v < 0 then (v + (n : Int)).toNat else min v.toNat n
theorem sIx_none (n d : Nat) : sIx n d none = d := rfl
theorem sIx_nat (n d k : Nat) : sIx n d (some (k : Int)) = min k n := by
  show (if (k : Int) < 0 then ((k : Int) + (n : Int)).toNat else min (k : Int).toNat n) = min k n
  rw [if_neg (by omega), Int.toNat_natCast]
theorem sIx_le (n d : Nat) (hd : d ≤ n) (o : Option Int) : sIx n d o ≤ n := by
  cases o with
  | none => exact hd
  | some v =>
    show (if v < 0 then (v + (n : Int)).toNat else min v.toNat n) ≤ n
    by_cases hv : v < 0
    · rw [if_pos hv]; omega
    · rw [if_neg hv]; exact Nat.min_le_right _ _
theorem clip_eq (v : Int) (n d : Nat) : (if v < 0 then max (v + (n : Int)) 0 else min v (n : Int)) = ((sIx n d (some v) : Nat) : Int) := by
  show (if v < 0 then max (v + (n : Int)) 0 else min v (n : Int)) = (((if v < 0 then (v + (n : Int)).toNat else min v.toNat n) : Nat) : Int)
  by_cases hv : v < 0
  · simp only [if_pos hv]; omega
  · simp only [if_neg hv]; omega
theorem adjust_gen (lo hi : Option Int) (n : Nat) : Builtin.Slice.sliceAdjust lo hi 1 (n : Int) = (((sIx n 0 lo : Nat) : Int), ((sIx n n hi : Nat) : Int)) := by
  have h1 : ¬ ((1 : Int) < 0) := by omega
  unfold Builtin.Slice.sliceAdjust
  simp only [h1, if_false]
  refine Prod.ext ?_ ?_
  · cases lo with
    | none => rfl
    | some v => exact clip_eq v n 0
  · cases hi with
    | none => rfl
    | some v => exact clip_eq v n n
theorem places_gen (i j : Nat) : Builtin.Slice.slicePlaces (i : Int) (j : Int) 1 = j - i := by
  unfold Builtin.Slice.slicePlaces
  have h1 : (1 : Int) > 0 := by omega
  simp only [h1, if_true, Int.ediv_one]
  split <;> omega
theorem slicePart_ {v : Value} {o : Option Int} {Q : Option Int → Shared → Prop} (p : IsPart v o) (h : Q o s) : wpAny (model prog w) A (Builtin.Slice.slicePartIndex v) Q E s := by
  cases p with
  | none => exact slicePart_none h
  | int i t => exact slicePart_int h
theorem sliceApplied_gen {sl : Addr} {vl vu : Value} {lo hi : Option Int} {n : Nat} {Q : Int × Int × Nat → Shared → Prop} (hs : s.heap.IsSliceOf sl vl vu .none) (pl : IsPart vl lo) (pu : IsPart vu hi)
    (h : Q (((sIx n 0 lo : Nat) : Int), 1, sIx n n hi - sIx n 0 lo) s) : wpAny (model prog w) A (Builtin.Slice.sliceApplied (.ref sl) (pure (n : Int))) Q E s := by
  obtain ⟨os, hos, hcs, hds⟩ := id hs
  unfold Builtin.Slice.sliceApplied Builtin.Slice.sliceFields
  refine wpAny_bind (wpAny_bind (wpAny_field hos hds (x := vl) rfl (wpAny_bind (wpAny_field hos hds (x := vu) rfl (wpAny_bind (wpAny_field hos hds (x := .none) rfl (wpAny_pure ?_)))))))
  refine wpAny_bind (slicePart_none ?_)
  show wpAny _ _ (if ((1 : Int) == 0) = true then _ else _) _ _ s
  rw [if_neg (by decide)]
  refine wpAny_bind (slicePart_ pl (wpAny_bind (slicePart_ pu (wpAny_bind (wpAny_pure ?_)))))
  show wpAny _ _ (match Builtin.Slice.sliceAdjust lo hi 1 (n : Int) with | (lo, hi) => pure (lo, (1 : Int), Builtin.Slice.slicePlaces lo hi 1)) _ _ s
  rw [adjust_gen lo hi n]
  show wpAny _ _ (pure (((sIx n 0 lo : Nat) : Int), (1 : Int), Builtin.Slice.slicePlaces ((sIx n 0 lo : Nat) : Int) ((sIx n n hi : Nat) : Int) 1)) _ _ s
  rw [places_gen]
  exact wpAny_pure h
theorem pick_gen (xs : Array Value) (i k : Nat) : ((List.range k).filterMap fun (m : Nat) => xs[((i : Int) + (m : Int) * 1).toNat]?).toArray = ((xs.toList.drop i).take k).toArray := by
  have e : (fun (m : Nat) => xs[((i : Int) + (m : Int) * 1).toNat]?) = fun m => xs[i + m]? := by
    funext m
    have : ((i : Int) + (m : Int) * 1).toNat = i + m := by omega
    rw [this]
  rw [e]
  have := pick_run xs i k
  rw [List.filterMap_map] at this
  have e2 : ((fun x => xs[x]?) ∘ fun x => i + x) = fun m => xs[i + m]? := rfl
  rw [e2] at this
  rw [this]

theorem getItem_tuple_cut {t sl : Addr} {items : Array Value} {vl vu : Value} {lo hi : Option Int} {Q : Value → Shared → Prop} (ht : IsTup s.heap t items) (hs : s.heap.IsSliceOf sl vl vu .none) (pl : IsPart vl lo) (pu : IsPart vu hi)
    (hw : ¬ (sIx items.size 0 lo = 0 ∧ sIx items.size items.size hi = items.size))
    (h : Q (.ref s.heap.objs.size) { s with heap := s.heap.push { cls := .type "tuple", data := .seq ((items.toList.drop (sIx items.size 0 lo)).take (sIx items.size items.size hi - sIx items.size 0 lo)).toArray } })
    (hsz : items.size ≤ sizeLine) : wpAny (model prog w) A (getItem (.ref t) (.ref sl)) Q E s := by
  have htake : sizeOk (.seq ((items.toList.drop (sIx items.size 0 lo)).take (sIx items.size items.size hi - sIx items.size 0 lo)).toArray) := by
    show ((items.toList.drop (sIx items.size 0 lo)).take (sIx items.size items.size hi - sIx items.size 0 lo)).toArray.size ≤ sizeLine
    rw [List.size_toArray, List.length_take, List.length_drop, Array.length_toList]
    omega
  have hj : sIx items.size items.size hi ≤ items.size := sIx_le _ _ (Nat.le_refl _) hi
  obtain ⟨os, hos, hcs, hds⟩ := id hs
  have hTs : s.TypeIs (.ref sl) "slice" := ⟨os, hos, hcs⟩
  unfold getItem
  try with_reducible refine wpAny_holding ?_
  first | refine wpAny_bind (wpAny_pure ?_) | skip
  refine wpAny_bind (wpAny_sequenceKey ht.typeIs (by decide) ?_)
  refine wpAny_bind (wpAny_callSpecial?_slot (name := Str.ofString "__getitem__") ht.typeIs PyProof.Rows.slot_tuple_getitem
    (wpAny_call_entry PyProof.Rows.slot_tuple_getitem ht.typeIs entry_tuple_getitem ?_ (args_tuple_getitem _ _)))
  show wpAny _ _ (Builtin.Tuple.tupleItemsOf (.ref t) >>= _) _ _ s
  refine wpAny_bind (tupleItemsOf_ ht ?_)
  refine wpAny_bind (wpAny_typeOf hTs ?_)
  rw [if_pos (by decide)]
  refine wpAny_bind (sliceApplied_gen hs pl pu ?_)
  have hno : ¬ ((((sIx items.size 0 lo : Nat) : Int) == 0 && (1 : Int) == 1 && (sIx items.size items.size hi - sIx items.size 0 lo) == items.size) = true) := by
    intro q
    rw [Bool.and_eq_true, Bool.and_eq_true] at q
    have q1 : ((sIx items.size 0 lo : Nat) : Int) = 0 := eq_of_beq q.1.1
    have q2 : sIx items.size items.size hi - sIx items.size 0 lo = items.size := eq_of_beq q.2
    exact hw ⟨by omega, by omega⟩
  show wpAny _ _ (if (((sIx items.size 0 lo : Nat) : Int) == 0 && (1 : Int) == 1 && (sIx items.size items.size hi - sIx items.size 0 lo) == items.size) = true then _ else _) _ _ s
  rw [if_neg hno, pick_gen]
  first
    | exact wpAny_bind (m := Builtin.Tuple.tupleExact _) (wpAny_newObj_type (wpAny_pure ⟨_, rfl, wpAny_pure h⟩) htake)
    | exact wpAny_bind (m := Builtin.Tuple.tupleExact _) (wpAny_newObj_type (wpAny_bind (wpAny_pure (wpAny_pure ⟨_, rfl, wpAny_pure h⟩))) htake)
    | exact wpAny_bind (wpAny_bind (m := Builtin.Tuple.tupleExact _) (wpAny_newObj_type (wpAny_pure (wpAny_pure ⟨_, rfl, wpAny_pure h⟩)) htake))
    | exact wpAny_bind (wpAny_bind (m := Builtin.Tuple.tupleExact _) (wpAny_newObj_type (wpAny_pure ⟨_, rfl, wpAny_pure h⟩) htake))
end
end HT

namespace L2
open PySem PySem.Spec PyProof.Rows

/-! ### the parts of a slice -/
abbrev TO := St → Hp → (Option Int → Hp → Prop) → Prop
/-- a slice's part (left out, or an int) -/
def PO (X : Cx) (e : Option Expr) (t : TO) : Prop :=
  ∀ (pins : List (Addr × Obj)) (s : Shared) (σ : St) (H : Hp) (Q : Option Int → Hp → Prop), Inv X pins σ H s → t σ H Q →
    wpAny (model X.prog X.w) X.A (evalPart e X.env) (fun u s' => ∃ o H', Inv X pins σ H' s' ∧ IsPart u o ∧ Q o H') X.xe s
def tNoPart : TO := fun _ H Q => Q none H
def tPart (t : TE) : TO := fun σ H Q => t σ H fun x H1 => ∃ i, x = .int i ∧ Q (some i) H1

theorem intsAre_of {ns : List Int} : ∀ {us : List Value}, Vals (ns.map V.int) us → IntsAre us ns := by
  induction ns with
  | nil => intro us r; rw [List.map_nil] at r; cases r; exact .nil
  | cons n ns ih =>
    intro us r
    rw [List.map_cons] at r
    cases r with
    | cons r1 r2 =>
      obtain ⟨t, e⟩ := r1
      subst e
      exact .cons n t (ih r2)

section
variable {X : Cx} {e : Expr} {te : TE} {lo hi : Option Expr} {tl th : TO} {pos p2 : Pos}

theorem po_none : PO X none tNoPart := by
  intro pins s σ H Q I h
  rw [evalPart_none]
  exact wpAny_pure ⟨none, H, I, .none, h⟩
theorem po_some (h : PE X e te) : PO X (some e) (tPart te) := by
  intro pins s σ H Q I hw
  rw [evalPart_some]
  refine thn (h pins s σ H _ I hw) fun u s1 ⟨x, H1, I1, r1, q1⟩ => ?_
  obtain ⟨i, rfl, q⟩ := q1
  obtain ⟨t, rfl⟩ := r1
  exact ⟨some i, H1, I1, .int i t, q⟩

/-- what a slice of a value is, by values: the slice object stands at sl -/
def SlR (X : Cx) (r : V → Option Int → Option Int → Hp → VK → Prop) : Prop :=
  ∀ (pins : List (Addr × Obj)) (s : Shared) (σ : St) (H : Hp) (x : V) (v vl vu : Value) (lo hi : Option Int) (sl : Addr) (Q : VK), Inv X pins σ H s → RelV x v → s.heap.IsSliceOf sl vl vu .none → IsPart vl lo → IsPart vu hi → r x lo hi H Q →
    ∃ T id, typeLookup (.type T) "__getitem__" = pure (some (.builtin id)) ∧ s.TypeIs v T ∧ wpAny (model X.prog X.w) X.A (getItem v (.ref sl)) (EP X pins σ Q) X.xe s
theorem SlR.or {r r' : V → Option Int → Option Int → Hp → VK → Prop} (h : SlR X r) (h' : SlR X r') : SlR X (fun x lo hi H Q => r x lo hi H Q ∨ r' x lo hi H Q) := by
  intro pins s σ H x v vl vu lo hi sl Q I rx hs pl pu q
  rcases q with q | q
  · exact h pins s σ H x v vl vu lo hi sl Q I rx hs pl pu q
  · exact h' pins s σ H x v vl vu lo hi sl Q I rx hs pl pu q
def tSl (r : V → Option Int → Option Int → Hp → VK → Prop) (te : TE) (tl th : TO) : TE := fun σ H Q => te σ H fun x H1 => tl σ H1 fun l H2 => th σ H2 fun u H3 => r x l u H3 Q
/-- a[lo:hi], any a -/
theorem pe_slice {r : V → Option Int → Option Int → Hp → VK → Prop} (hr : SlR X r) (he : PE X e te) (hl : PO X lo tl) (hu : PO X hi th) : PE X (.Subscript e (.Slice lo hi none p2) pos) (tSl r te tl th) := by
  intro pins s σ H Q I h
  refine Subscript_ (thn (he pins s σ H _ I h) fun v s1 ⟨x, H1, I1, r1, q1⟩ => ?_)
  refine wpAny_Slice (thn (hl pins s1 σ H1 _ I1 q1) fun vl s2 ⟨l, H2, I2, pl, q2⟩ => thn (hu pins s2 σ H2 _ I2 q2) fun vu s3 ⟨u, H3, I3, pu, q3⟩ => ?_)
  rw [evalPart_none]
  refine wpAny_pure ?_
  have I4 : Inv X pins σ H3 { s3 with heap := s3.heap.push { cls := .type "slice", data := .fields #[vl, vu, .none] } } := I3.kept (t' := s3.toks) fun b ob q => Heap.get?_push_of_some _ q
  obtain ⟨T, id, hT, ht, hg⟩ := hr pins { s3 with heap := s3.heap.push { cls := .type "slice", data := .fields #[vl, vu, .none] } } σ H3 x v vl vu l u s3.heap.objs.size Q I4 r1 (Heap.IsSliceOf.new ..) pl pu q3
  show wpAny (model X.prog X.w) X.A (subscriptTail e (.Slice lo hi none p2) v (.ref s3.heap.objs.size)) (EP X pins σ Q) X.xe { s3 with heap := s3.heap.push { cls := .type "slice", data := .fields #[vl, vu, .none] } }
  exact tail_any (ops := [.ref s3.heap.objs.size, v]) ht hT hg (by with_unfolding_all rfl)

/-- the items of xs[lo:hi] -/
def cutV (xs : List V) (lo hi : Option Int) : List V := (xs.drop (HT.sIx xs.length 0 lo)).take (HT.sIx xs.length xs.length hi - HT.sIx xs.length 0 lo)
theorem cutV_length (xs : List V) (lo hi : Option Int) : (cutV xs lo hi).length ≤ xs.length := by
  unfold cutV
  rw [List.length_take, List.length_drop]
  omega
/-- t[lo:hi], not the whole of it (the whole would be t itself) -/
def rSlT (K : PySem.W.Frag) : V → Option Int → Option Int → Hp → VK → Prop := fun x lo hi H Q => ∃ a xs, x = .ref a ∧ SqT K H a xs ∧
  ¬ (HT.sIx xs.length 0 lo = 0 ∧ HT.sIx xs.length xs.length hi = xs.length) ∧ ∀ p, H p = none → Q (.ref p) (upd H p (.tup (cutV xs lo hi)))
theorem sl_tup : SlR X (rSlT X.K) := by
  intro pins s σ H x v vl vu lo hi sl Q I rx hs pl pu h
  obtain ⟨a, xs, rfl, hx, hw, q⟩ := h
  cases rx
  obtain ⟨its, r, ht, hz⟩ := I.tuple hx
  have hlen : its.toArray.size = xs.length := by rw [List.size_toArray]; exact r.length.symm
  refine ⟨"tuple", _, PyProof.Rows.slot_tuple_getitem.lookup, ht.typeIs, ?_⟩
  refine HT.getItem_tuple_cut ht hs pl pu (by rw [hlen]; exact hw) ?_ (by rw [hlen]; exact hz)
  rw [hlen]
  refine ⟨.ref s.heap.objs.size, _, I.laid (t' := s.toks) (o := .tup (cutV xs lo hi)) (fun b ob q => Heap.get?_push_of_some _ q) (Nat.le_refl _) ?_, rfl, q _ (I.hok.fresh (Nat.le_refl _))⟩
  exact ⟨Nat.le_trans (cutV_length xs lo hi) hz, _, (r.drop (HT.sIx xs.length 0 lo)).take (HT.sIx xs.length xs.length hi - HT.sIx xs.length 0 lo), IsTup.new _ _⟩

/-! ### t < u, t + u -/
def rLtT (K : PySem.W.Frag) : R2 := fun x y H Q => ∃ a b ns ms, x = .ref a ∧ y = .ref b ∧ SqT K H a (ns.map V.int) ∧ SqT K H b (ms.map V.int) ∧ Q (.bl (HT.lexLt ns ms)) H
theorem op_ltT (hu : X.A.units < cLine) : OpR X (compareOp .Lt) (rLtT X.K) := by
  intro pins s σ H x y v u Q I rx ry h
  obtain ⟨a, b, ns, ms, rfl, rfl, ha, hb, q⟩ := h
  cases rx
  cases ry
  obtain ⟨its, r1, p1, _⟩ := I.tuple ha
  obtain ⟨its2, r2, p2, _⟩ := I.tuple hb
  have i1 : IntsAre its.toArray.toList ns := intsAre_of r1
  have i2 : IntsAre its2.toArray.toList ms := intsAre_of r2
  exact HT.lt_tupInts p1 p2 i1 i2 hu ⟨.bl (HT.lexLt ns ms), H, I, rfl, q⟩
/-- t + u, t not empty: u empty gives t itself -/
def rCatT (K : PySem.W.Frag) : R2 := fun x y H Q => ∃ a b xs ys, x = .ref a ∧ y = .ref b ∧ SqT K H a xs ∧ SqT K H b ys ∧ xs ≠ [] ∧ xs.length + ys.length ≤ sizeLine ∧
  (ys = [] → Q (.ref a) H) ∧ (ys ≠ [] → ∀ p, H p = none → Q (.ref p) (upd H p (.tup (xs ++ ys))))
theorem Vals.nil_iff {xs : List V} {us : List Value} (r : Vals xs us) : us = [] ↔ xs = [] := by
  cases r with
  | nil => simp
  | cons _ _ => simp
theorem op_catT : OpR X (binaryOp .Add) (rCatT X.K) := by
  intro pins s σ H x y v u Q I rx ry h
  obtain ⟨a, b, xs, ys, rfl, rfl, ha, hb, hx, hz, q1, q2⟩ := h
  cases rx
  cases ry
  obtain ⟨its, r1, p1, _⟩ := I.tuple ha
  obtain ⟨its2, r2, p2, _⟩ := I.tuple hb
  refine HT.cat_tup p1 p2 (fun z => hx (r1.nil_iff.mp z)) (fun z => ⟨.ref a, H, I, rfl, q1 (r2.nil_iff.mp z)⟩) (fun z => ?_) (by rw [← r1.length, ← r2.length]; exact hz)
  refine ⟨.ref s.heap.objs.size, _, I.laid (t' := s.toks) (o := .tup (xs ++ ys)) (fun b ob q => Heap.get?_push_of_some _ q) (Nat.le_refl _) ?_, rfl, q2 (fun w => z (r2.nil_iff.mpr w)) _ (I.hok.fresh (Nat.le_refl _))⟩
  exact ⟨by rw [List.length_append]; exact hz, _, r1.append r2, IsTup.new _ _⟩
/-- tuple(t) -/
theorem call_tupleT : CallR X (.type "tuple") (fun xs H Q => ∃ a ys, xs = [.ref a] ∧ SqT X.K H a ys ∧ Q (.ref a) H) := by
  intro pins s σ H xs us Q I r h
  obtain ⟨a, ys, rfl, ha, q⟩ := h
  obtain ⟨u, rfl, ru⟩ := vals1 r
  cases ru
  obtain ⟨its, _, p1, _⟩ := I.tuple ha
  exact call_tuple_same (items := its.toArray) p1 ⟨.ref a, H, I, rfl, q⟩
end
end L2

namespace L2
open PySem PySem.Spec PyProof.Rows

/-! ### places -/
/-- the place that an index of any sign means -/
def ixN (n : Nat) (i : Int) : Option Nat := if 0 ≤ i then (if i < n then some i.toNat else none) else if -(n : Int) ≤ i then some (i + n).toNat else none
def atI {α : Type} (xs : List α) (i : Int) : Option α := (ixN xs.length i).bind fun j => xs[j]?
theorem ixN_seq {n : Nat} {i : Int} {j : Nat} (h : ixN n i = some j) : seqIndex? i n = some j ∧ j < n ∧ -(n : Int) ≤ i ∧ i < n := by
  unfold ixN at h
  by_cases h0 : 0 ≤ i
  · rw [if_pos h0] at h
    by_cases h1 : i < n
    · rw [if_pos h1] at h
      have e : i.toNat = j := Option.some.inj h
      exact ⟨by rw [seqIndex_of h0 h1, e], by omega, by omega, h1⟩
    · rw [if_neg h1] at h; cases h
  · rw [if_neg h0] at h
    by_cases h1 : -(n : Int) ≤ i
    · rw [if_pos h1] at h
      have e : (i + n).toNat = j := Option.some.inj h
      exact ⟨by rw [seqIndex_neg (by omega) h1, e], by omega, h1, by omega⟩
    · rw [if_neg h1] at h; cases h
theorem atI_get {α : Type} {xs : List α} {i : Int} {v : α} (h : atI xs i = some v) : ∃ j, seqIndex? i xs.length = some j ∧ xs[j]? = some v ∧ j < xs.length ∧ -(xs.length : Int) ≤ i ∧ i < xs.length := by
  unfold atI at h
  cases e : ixN xs.length i with
  | none => rw [e] at h; cases h
  | some j =>
    rw [e] at h
    obtain ⟨h1, h2, h3, h4⟩ := ixN_seq e
    exact ⟨j, h1, h, h2, h3, h4⟩
theorem atI_nat {α : Type} {xs : List α} {j : Nat} {v : α} (h : xs[j]? = some v) : atI xs (j : Int) = some v := by
  have hj : j < xs.length := (List.getElem?_eq_some_iff.mp h).1
  have e : ixN xs.length (j : Int) = some j := by
    unfold ixN
    rw [if_pos (by omega), if_pos (by omega)]; simp
  unfold atI; rw [e]; exact h
theorem atI_last {α : Type} (xs : List α) (v : α) : atI (xs ++ [v]) (-1) = some v := by
  have hl : (xs ++ [v]).length = xs.length + 1 := by simp
  have e : ixN (xs ++ [v]).length (-1) = some xs.length := by
    unfold ixN
    rw [hl, if_neg (by decide), if_pos (by omega)]
    congr 1
    omega
  unfold atI
  rw [e]
  show (xs ++ [v])[xs.length]? = some v
  simp

/-! ### what may be subscripted -/
/-- what stands as an index of a plain subscript -/
def PlainIx (b : Expr) : Prop := ∀ o i, subscripted b false o i = operate [o, i] (getItem o i)
/-- a subscript by values -/
def IxR (X : Cx) (r : R2) : Prop :=
  ∀ (value slice : Expr) (pins : List (Addr × Obj)) (s : Shared) (σ : St) (H : Hp) (x y : V) (v u : Value) (Q : VK), Inv X pins σ H s → RelV x v → RelV y u → r x y H Q →
    subscripted slice false v u = operate [v, u] (getItem v u) → wpAny (model X.prog X.w) X.A (subscriptTail value slice v u) (EP X pins σ Q) X.xe s
/-- a call of a builtin's method by values: the receiver, the arguments -/
def MtR (X : Cx) (id : String) (r : V → List V → Hp → VK → Prop) : Prop :=
  ∀ (pins : List (Addr × Obj)) (s : Shared) (σ : St) (H : Hp) (x : V) (xs : List V) (v : Value) (us : List Value) (Q : VK), Inv X pins σ H s → RelV x v → Vals xs us → r x xs H Q →
    wpAny (model X.prog X.w) X.A (call (.builtin id) (v :: us)) (EP X pins σ Q) X.xe s
section
variable {X : Cx} {a b : Expr} {ta tb : TE} {pos : Pos}
theorem IxR.or {r r' : R2} (h : IxR X r) (h' : IxR X r') : IxR X (fun x y H Q => r x y H Q ∨ r' x y H Q) := by
  intro value slice pins s σ H x y v u Q I rx ry q hs
  rcases q with q | q
  · exact h value slice pins s σ H x y v u Q I rx ry q hs
  · exact h' value slice pins s σ H x y v u Q I rx ry q hs
theorem MtR.or {id : String} {r r' : V → List V → Hp → VK → Prop} (h : MtR X id r) (h' : MtR X id r') : MtR X id (fun x xs H Q => r x xs H Q ∨ r' x xs H Q) := by
  intro pins s σ H x xs v us Q I rx rs q
  rcases q with q | q
  · exact h pins s σ H x xs v us Q I rx rs q
  · exact h' pins s σ H x xs v us Q I rx rs q
/-- a[b] -/
theorem pe_ix {r : R2} (hr : IxR X r) (ha : PE X a ta) (hb : PE X b tb) (hs : PlainIx b) : PE X (.Subscript a b pos) (tOp r ta tb) := by
  intro pins s σ H Q I h
  exact Subscript_ (binT ha hb I h fun v u s2 x y H2 I2 rx ry q => hr a b pins s2 σ H2 x y v u Q I2 rx ry q (hs _ _))

def rIxL (K : PySem.W.Frag) : R2 := fun x y H Q => ∃ p xs i v, x = .ref p ∧ y = .int i ∧ SqL K H p xs ∧ atI xs i = some v ∧ Q v H
def rIxT (K : PySem.W.Frag) : R2 := fun x y H Q => ∃ p xs i v, x = .ref p ∧ y = .int i ∧ SqT K H p xs ∧ atI xs i = some v ∧ Q v H
def rIxS : R2 := fun x y H Q => ∃ z i c, x = .str z ∧ y = .int i ∧ z.length ≤ sizeLine ∧ atI z.cps.toList i = some c ∧ Q (.str ⟨#[c]⟩) H
theorem ix_list : IxR X (rIxL X.K) := by
  intro value slice pins s σ H x y v u Q I rx ry h hs
  obtain ⟨p, xs, i, z, rfl, rfl, hq, he, q⟩ := h
  cases rx
  obtain ⟨t, rfl⟩ := ry
  obtain ⟨its, r, pl, hz⟩ := I.list hq
  obtain ⟨j, h1, h2, h3, h4, h5⟩ := atI_get he
  obtain ⟨w, ew, rw'⟩ := r.get h2
  have hl := r.length
  have hn := line63
  have fin : EP X pins σ Q w s := ⟨z, H, I, rw', q⟩
  by_cases h0 : 0 ≤ i
  · have hj : i.toNat = j := by
      rw [seqIndex_of h0 h5] at h1
      exact Option.some.inj h1
    exact item_listR pl.isList h0 (by omega) (by rw [hj]; simpa using ew) fin hs
  · have hj : (i + (its.toArray.size : Int)).toNat = j := by
      rw [seqIndex_neg (by omega) h4] at h1
      rw [List.size_toArray, ← hl]
      exact Option.some.inj h1
    exact subscriptTail_builtinR (x := w) pl.isList.typeIs slot_list_getitem.lookup
      (wpAny_getItem_list_neg (Q := fun r s' => r = w ∧ EP X pins σ Q r s') pl.isList (by omega) (by rw [List.size_toArray] <;> omega) (by omega) (by rw [hj]; simpa using ew) ⟨rfl, fin⟩) hs
theorem ix_tup : IxR X (rIxT X.K) := by
  intro value slice pins s σ H x y v u Q I rx ry h hs
  obtain ⟨p, xs, i, z, rfl, rfl, hq, he, q⟩ := h
  cases rx
  obtain ⟨t, rfl⟩ := ry
  obtain ⟨its, r, pl, hz⟩ := I.tuple hq
  obtain ⟨j, h1, h2, h3, h4, h5⟩ := atI_get he
  obtain ⟨w, ew, rw'⟩ := r.get h2
  have hl := r.length
  have hn := line63
  have fin : EP X pins σ Q w s := ⟨z, H, I, rw', q⟩
  exact subscriptTail_builtinR (x := w) pl.typeIs slot_tuple_getitem.lookup
    (getItem_tuple (j := j) (Q := fun r s' => r = w ∧ EP X pins σ Q r s') pl (by omega) (by omega) (by rw [List.size_toArray, ← hl]; exact h1) (by simpa using ew) ⟨rfl, fin⟩) hs
theorem ix_str : IxR X rIxS := by
  intro value slice pins s σ H x y v u Q I rx ry h hs
  obtain ⟨z, i, c, rfl, rfl, hz, he, q⟩ := h
  obtain ⟨t, rfl⟩ := rx
  obtain ⟨t', rfl⟩ := ry
  obtain ⟨j, h1, h2, h3, h4, h5⟩ := atI_get he
  have hl : z.cps.toList.length = z.length := by simp [Str.length]
  rw [hl] at h1 h4 h5
  have hn := line63
  exact tail_any (typeIs_str s z t) slot_str_getitem.lookup (getItem_str (c := c) (by
    have e1 : decide (i < -(2 ^ 63 : Int)) = false := decide_eq_false (by omega)
    have e2 : decide (i ≥ 2 ^ 63) = false := decide_eq_false (by omega)
    rw [e1, e2, Bool.or_false]) (by rw [h1]; simpa using h2) ⟨.str ⟨#[c]⟩, H, I.tok _, ⟨_, rfl⟩, q⟩) hs
/-- list, tuple or str -/
def rIx (K : PySem.W.Frag) : R2 := fun x y H Q => rIxL K x y H Q ∨ rIxT K x y H Q ∨ rIxS x y H Q
theorem ix_seq : IxR X (rIx X.K) := ix_list.or (ix_tup.or ix_str)

/-! ### xs[i] = v, any sign -/
/-- the list's object behind a store -/
theorem mapSeq_set (its : List Value) (n j : Nat) (u : Value) : Obj.mapSeq (·.setIfInBounds j u) { cls := .type "list", data := .seq its.toArray n } = { cls := .type "list", data := .seq (its.set j u).toArray n } := by
  simp [Obj.mapSeq]
theorem Inv.lst {pins : List (Addr × Obj)} {σ : St} {H : Hp} {s : Shared} {p : Addr} {xs : List V} (I : Inv X pins σ H s) (h : H p = some (.lst xs)) :
    ∃ (its : List Value) (n : Nat), Vals xs its ∧ s.heap.get? p = some { cls := .type "list", data := .seq its.toArray n } ∧ xs.length ≤ sizeLine := by
  obtain ⟨z, its, n, r, e⟩ := I.hok p _ h
  exact ⟨its, n, r, e, z⟩
/-- the list at p is written by an update of its object -/
theorem Inv.lstUpd {pins : List (Addr × Obj)} {σ : St} {H : Hp} {s : Shared} {p : Addr} {xs ys : List V} {its its' : List Value} {n n' : Nat} {f : Obj → Obj} (I : Inv X pins σ H s) (h : H p = some (.lst xs))
    (ho : s.heap.get? p = some { cls := .type "list", data := .seq its.toArray n }) (hf : f { cls := .type "list", data := .seq its.toArray n } = { cls := .type "list", data := .seq its'.toArray n' }) (r : Vals ys its') (hz : ys.length ≤ sizeLine) (t : Nat) :
    Inv X pins σ (upd H p (.lst ys)) { s with heap := s.heap.update p f, toks := t } := by
  have e : (s.heap.update p f).get? p = some { cls := .type "list", data := .seq its'.toArray n' } := by
    rw [Heap.get?_update_self f ho (by rw [hf] <;> rfl), hf]
  refine I.write (x := p) (e := p) (by rw [h]; trivial) (.inl rfl) (fun b u hb q => (Heap.get?_update_other _ _ (Ne.symm hb)).trans q) ⟨_, e⟩ ?_
  exact ⟨hz, its', n', r, e⟩
def rSetL : V → V → V → Hp → (Hp → Prop) → Prop := fun o i v H Q => ∃ p xs k j, o = .ref p ∧ i = .int k ∧ H p = some (.lst xs) ∧ ixN xs.length k = some j ∧ Q (upd H p (.lst (xs.set j v)))
theorem set_list : PSet X rSetL := by
  intro pins s σ H o i v ov iv u Q I ro ri rv h
  obtain ⟨p, xs, k, j, rfl, rfl, hp, hj, q⟩ := h
  cases ro
  obtain ⟨t, rfl⟩ := ri
  obtain ⟨its, n, r, ho, hz⟩ := I.lst hp
  obtain ⟨h1, h2, h3, h4⟩ := ixN_seq hj
  have hl := r.length
  have hn := line63
  have I' : Inv X pins σ (upd H p (.lst (xs.set j v))) { s with heap := s.heap.update p (Obj.mapSeq (·.setIfInBounds j u)) } :=
    I.lstUpd hp ho (mapSeq_set its n j u) (r.set rv j) (by rw [List.length_set]; exact hz) s.toks
  by_cases h0 : 0 ≤ k
  · have hk : k.toNat = j := by
      rw [seqIndex_of h0 h4] at h1
      exact Option.some.inj h1
    exact PySem.W.ki_setAt ho h0 (by omega) (by rw [List.size_toArray, ← hl]; exact h4) (by rw [hk]; exact ⟨_, I', q⟩)
  · have hk : (k + (its.toArray.size : Int)).toNat = j := by
      rw [seqIndex_neg (by omega) h3] at h1
      rw [List.size_toArray, ← hl]
      exact Option.some.inj h1
    exact PySem.W.ki_setBack ho (by omega) (by rw [List.size_toArray, ← hl]; exact h3) (by omega) (by rw [hk]; exact ⟨_, I', q⟩)

/-! ### slices -/
theorem slice_bounds (lo hi : Option Int) (n : Nat) : (sliceBounds lo hi none n).1 = ((HT.sIx n 0 lo : Nat) : Int) ∧ (sliceBounds lo hi none n).2.1 = ((HT.sIx n n hi : Nat) : Int) ∧ (sliceBounds lo hi none n).2.2 = 1 := by
  refine ⟨?_, ?_, rfl⟩
  · cases lo with
    | none => simp [sliceBounds, HT.sIx]
    | some i =>
      simp only [sliceBounds, HT.sIx, Option.getD_none, show (1 : Int) > 0 by decide, if_true]
      by_cases h : i < 0
      · simp only [h, if_true] <;> omega
      · simp only [h, if_false] <;> omega
  · cases hi with
    | none => simp [sliceBounds, HT.sIx]
    | some i =>
      simp only [sliceBounds, HT.sIx, Option.getD_none, show (1 : Int) > 0 by decide, if_true]
      by_cases h : i < 0
      · simp only [h, if_true] <;> omega
      · simp only [h, if_false] <;> omega
theorem slicePick_cut (its : List Value) (lo hi : Option Int) : slicePick its.toArray lo hi none = ((its.drop (HT.sIx its.length 0 lo)).take (HT.sIx its.length its.length hi - HT.sIx its.length 0 lo)).toArray := by
  obtain ⟨h1, h2, h3⟩ := slice_bounds lo hi its.toArray.size
  unfold slicePick
  rw [h1, h2, h3]
  simp only [sliceRange_one, pick_run, List.size_toArray] <;> rfl
/-- xs[lo:hi] of a list: a new list -/
def rSlL (K : PySem.W.Frag) : V → Option Int → Option Int → Hp → VK → Prop := fun x lo hi H Q => ∃ a xs, x = .ref a ∧ SqL K H a xs ∧ ∀ p, H p = none → Q (.ref p) (upd H p (.lst (cutV xs lo hi)))
theorem sl_list : SlR X (rSlL X.K) := by
  intro pins s σ H x v vl vu lo hi sl Q I rx hs pl pu h
  obtain ⟨a, xs, rfl, hx, q⟩ := h
  cases rx
  obtain ⟨its, r, ht, hz⟩ := I.list hx
  have hlen := r.length
  refine ⟨"list", _, slot_list_getitem.lookup, ht.isList.typeIs, ?_⟩
  refine wpAny_getItem_list_slice ht.isList hs pl pu .none (by simp) ?_ (by rw [List.size_toArray] <;> omega)
  rw [slicePick_cut, ← hlen]
  refine ⟨.ref s.heap.objs.size, _, I.laid (t' := s.toks) (o := .lst (cutV xs lo hi)) (fun b ob q => Heap.get?_push_of_some _ q) (Nat.le_refl _) ?_, rfl, q _ (I.hok.fresh (Nat.le_refl _))⟩
  exact ⟨Nat.le_trans (cutV_length xs lo hi) hz, _, 0, (r.drop (HT.sIx xs.length 0 lo)).take (HT.sIx xs.length xs.length hi - HT.sIx xs.length 0 lo), Heap.get?_push_size _ rfl⟩

/-! ### in, not in: flat items -/
def flatV : V → Bool
  | .non => true
  | .bl _ => true
  | .int _ => true
  | .str _ => true
  | _ => false
/-- == of flat values -/
def eqV : V → V → Bool
  | .non, .non => true
  | .bl a, .bl b => a == b
  | .bl a, .int b => (if a then 1 else 0) == b
  | .int a, .bl b => a == (if b then 1 else 0)
  | .int a, .int b => a == b
  | .str a, .str b => a == b
  | _, _ => false
theorem eqAt_V {A : Around} {s : Shared} {y x : V} {u v : Value} (ry : RelV y u) (rx : RelV x v) (fy : flatV y = true) (fx : flatV x = true) : SeqAt.EqAt A s u v (eqV y x) := by
  cases y with
  | non =>
    cases ry
    cases x with
    | non => cases rx; exact SeqAt.EqAt.same _
    | bl b => cases rx; exact SeqAt.EqAt.none_bool b
    | int b => obtain ⟨t, rfl⟩ := rx; exact SeqAt.EqAt.none_int b t
    | str b => obtain ⟨t, rfl⟩ := rx; exact SeqAt.EqAt.none_str b t
    | _ => exact absurd (show false = true from fx) Bool.false_ne_true
  | bl a =>
    cases ry
    cases x with
    | non => cases rx; exact SeqAt.EqAt.bool_none a
    | bl b => cases rx; exact SeqAt.EqAt.bool_bool a b
    | int b => obtain ⟨t, rfl⟩ := rx; exact SeqAt.EqAt.bool_int a b t
    | str b => obtain ⟨t, rfl⟩ := rx; exact SeqAt.EqAt.bool_str a b t
    | _ => exact absurd (show false = true from fx) Bool.false_ne_true
  | int a =>
    obtain ⟨t', rfl⟩ := ry
    cases x with
    | non => cases rx; exact SeqAt.EqAt.int_none a t'
    | bl b => cases rx; exact SeqAt.EqAt.int_bool a t' b
    | int b => obtain ⟨t, rfl⟩ := rx; exact SeqAt.EqAt.int_int a t' b t
    | str b => obtain ⟨t, rfl⟩ := rx; exact SeqAt.EqAt.int_str a t' b t
    | _ => exact absurd (show false = true from fx) Bool.false_ne_true
  | str a =>
    obtain ⟨t', rfl⟩ := ry
    cases x with
    | non => cases rx; exact SeqAt.EqAt.str_none a t'
    | bl b => cases rx; exact SeqAt.EqAt.str_bool a t' b
    | int b => obtain ⟨t, rfl⟩ := rx; exact SeqAt.EqAt.str_int a t' b t
    | str b => obtain ⟨t, rfl⟩ := rx; exact SeqAt.EqAt.str_str a t' b t
    | _ => exact absurd (show false = true from fx) Bool.false_ne_true
  | _ => exact absurd (show false = true from fy) Bool.false_ne_true
/-- the items' answers, read off the values (a value's own answer does not lean on its token) -/
def eqU (x : V) (u : Value) : Bool := match u with
  | .none => eqV .non x
  | .bool b => eqV (.bl b) x
  | .int i _ => eqV (.int i) x
  | .str z _ => eqV (.str z) x
  | _ => false
theorem eqU_of {x y : V} {u : Value} (r : RelV y u) (f : flatV y = true) : eqU x u = eqV y x := by
  cases y with
  | non => cases r; rfl
  | bl b => cases r; rfl
  | int i => obtain ⟨t, rfl⟩ := r; rfl
  | str z => obtain ⟨t, rfl⟩ := r; rfl
  | _ => exact absurd (show false = true from f) Bool.false_ne_true
theorem any_eqU {x : V} : ∀ {xs : List V} {us : List Value}, Vals xs us → xs.all flatV = true → us.any (eqU x) = xs.any fun y => eqV y x
  | _, _, .nil, _ => rfl
  | y :: xs, u :: us, .cons r t, f => by
    rw [List.all_cons, Bool.and_eq_true] at f
    rw [List.any_cons, List.any_cons, eqU_of r f.1, any_eqU t f.2]
theorem mem_eqAt {A : Around} {s : Shared} {x : V} {v : Value} (rx : RelV x v) (fx : flatV x = true) : ∀ {xs : List V} {us : List Value}, Vals xs us → xs.all flatV = true → ∀ u ∈ us, SeqAt.EqAt A s u v (eqU x u)
  | _, _, .nil, _ => fun u hu => by cases hu
  | y :: xs, u :: us, .cons r t, f => fun u' hu => by
    rw [List.all_cons, Bool.and_eq_true] at f
    rcases List.mem_cons.mp hu with rfl | hu
    · rw [eqU_of r f.1]; exact eqAt_V r rx f.1 fx
    · exact mem_eqAt rx fx t f.2 u' hu
def inV (x : V) (xs : List V) : Bool := xs.any fun y => eqV y x
/-- x in a list or tuple of flat items -/
def rIn (K : PySem.W.Frag) (neg : Bool) : R2 := fun x y H Q => ∃ p xs, y = .ref p ∧ (SqL K H p xs ∨ SqT K H p xs) ∧ flatV x = true ∧ xs.all flatV = true ∧ Q (.bl (if neg then !inV x xs else inV x xs)) H
theorem op_in_seq : OpR X (compareOp .In) (rIn X.K false) := by
  intro pins s σ H x y v u Q I rx ry h
  obtain ⟨p, xs, rfl, hq, fx, fs, q⟩ := h
  cases ry
  rcases hq with hq | hq
  · obtain ⟨its, r, pl, hz⟩ := I.list hq
    refine SeqAt.in_listAt (eqU x) pl.isList (fun w hw => mem_eqAt rx fx r fs w (by simpa using hw)) ⟨.bl _, H, I, rfl, ?_⟩
    rw [show its.toArray.any (eqU x) = its.any (eqU x) by simp, any_eqU r fs]
    exact q
  · obtain ⟨its, r, pl, hz⟩ := I.tuple hq
    refine SeqAt.in_tupleAt (eqU x) pl (fun w hw => mem_eqAt rx fx r fs w (by simpa using hw)) ⟨.bl _, H, I, rfl, ?_⟩
    rw [show its.toArray.any (eqU x) = its.any (eqU x) by simp, any_eqU r fs]
    exact q
theorem op_notIn_seq : OpR X (compareOp .NotIn) (rIn X.K true) := by
  intro pins s σ H x y v u Q I rx ry h
  obtain ⟨p, xs, rfl, hq, fx, fs, q⟩ := h
  cases ry
  rcases hq with hq | hq
  · obtain ⟨its, r, pl, hz⟩ := I.list hq
    refine SeqAt.notIn_listAt (eqU x) pl.isList (fun w hw => mem_eqAt rx fx r fs w (by simpa using hw)) ⟨.bl _, H, I, rfl, ?_⟩
    rw [show its.toArray.any (eqU x) = its.any (eqU x) by simp, any_eqU r fs]
    exact q
  · obtain ⟨its, r, pl, hz⟩ := I.tuple hq
    refine SeqAt.notIn_tupleAt (eqU x) pl (fun w hw => mem_eqAt rx fx r fs w (by simpa using hw)) ⟨.bl _, H, I, rfl, ?_⟩
    rw [show its.toArray.any (eqU x) = its.any (eqU x) by simp, any_eqU r fs]
    exact q
theorem op_notIn_str : OpR X (compareOp .NotIn) (fun x y H Q => ∃ i j, x = .str i ∧ y = .str j ∧ Q (.bl (!(!(Builtin.Str.occurrences j i 0 j.length 1).isEmpty))) H) := by
  intro pins s σ H x y v u Q I rx ry h
  obtain ⟨i, j, rfl, rfl, q⟩ := h
  obtain ⟨t, rfl⟩ := rx
  obtain ⟨t', rfl⟩ := ry
  exact notIn_str ⟨.bl _, H, I, rfl, q⟩

/-! ### len, list(x), tuple(x) of any list or tuple that is read -/
theorem call_len_seq : CallR X (.builtin "len") (fun xs H Q => ∃ p ys, xs = [.ref p] ∧ (SqL X.K H p ys ∨ SqT X.K H p ys) ∧ Q (.int ys.length) H) := by
  intro pins s σ H xs us Q I r h
  obtain ⟨p, ys, rfl, hq, q⟩ := h
  obtain ⟨u, rfl, rx⟩ := vals1 r
  cases rx
  have hn := line63
  rcases hq with hq | hq
  · obtain ⟨its, r', pl, hz⟩ := I.list hq
    have hlen := r'.length
    exact Calls.call_len_list pl.isList (by simp only [List.size_toArray] <;> omega) ⟨.int ys.length, H, I.tok _, ⟨s.toks + 1, by rw [List.size_toArray, hlen]⟩, q⟩
  · obtain ⟨its, r', pl, hz⟩ := I.tuple hq
    have hlen := r'.length
    exact len_tuple pl (by simp only [List.size_toArray] <;> omega) ⟨.int ys.length, H, I.tok _, ⟨s.toks + 1, by rw [List.size_toArray, hlen]⟩, q⟩
theorem call_len_str : CallR X (.builtin "len") (fun xs H Q => ∃ z, xs = [.str z] ∧ z.length ≤ sizeLine ∧ Q (.int z.length) H) := by
  intro pins s σ H xs us Q I r h
  obtain ⟨z, rfl, hz, q⟩ := h
  obtain ⟨u, rfl, t, rfl⟩ := vals1 r
  have hn := line63
  exact len_str (by omega) ⟨.int z.length, H, I.tok _, ⟨_, rfl⟩, q⟩
theorem CallR.or {f : Value} {r r' : List V → Hp → VK → Prop} (h : CallR X f r) (h' : CallR X f r') : CallR X f (fun xs H Q => r xs H Q ∨ r' xs H Q) := by
  intro pins s σ H xs us Q I rs q
  rcases q with q | q
  · exact h pins s σ H xs us Q I rs q
  · exact h' pins s σ H xs us Q I rs q
theorem call_list_of : CallR X (.type "list") (fun xs H Q => ∃ p ys, xs = [.ref p] ∧ (SqL X.K H p ys ∨ SqT X.K H p ys) ∧ ∀ l, H l = none → Q (.ref l) (upd H l (.lst ys))) := by
  intro pins s σ H xs us Q I r h
  obtain ⟨p, ys, rfl, hq, q⟩ := h
  obtain ⟨u, rfl, rx⟩ := vals1 r
  cases rx
  have fin : ∀ (its : List Value), Vals ys its → ys.length ≤ sizeLine → ∀ (h' : Heap) (c' : Nat), (∀ b o', s.heap.get? b = some o' → h'.get? b = some o') →
      h'.get? s.heap.objs.size = some { cls := .type "list", dict := none, data := .seq its.toArray c', slots := #[] } → EP X pins σ Q (.ref s.heap.objs.size) { s with heap := h' } := fun its r' hz h' c' kp e =>
    ⟨.ref s.heap.objs.size, _, I.laid (t' := s.toks) kp (Nat.le_refl _) (show ObjOk X.prog X.w _ h' _ (.lst ys) from ⟨hz, its, c', r', e⟩), rfl, q _ (I.hok.fresh (Nat.le_refl _))⟩
  rcases hq with hq | hq
  · obtain ⟨its, r', pl, hz⟩ := I.list hq
    have hlen := r'.length
    obtain ⟨o, ho, hc, n, hd⟩ := pl.isList
    exact call_list_seq p (.inl rfl) ho hc hd (fun h' c' kp e => fin its r' hz h' c' kp e) (by simp only [List.size_toArray] <;> omega)
  · obtain ⟨its, r', pl, hz⟩ := I.tuple hq
    have hlen := r'.length
    obtain ⟨o, ho, hc, n, hd⟩ := pl
    exact call_list_seq p (.inr rfl) ho hc hd (fun h' c' kp e => fin its r' hz h' c' kp e) (by simp only [List.size_toArray] <;> omega)
theorem call_tuple_of : CallR X (.type "tuple") (fun xs H Q => ∃ p ys, xs = [.ref p] ∧ ((SqL X.K H p ys ∧ ∀ l, H l = none → Q (.ref l) (upd H l (.tup ys))) ∨ (SqT X.K H p ys ∧ Q (.ref p) H))) := by
  intro pins s σ H xs us Q I r h
  obtain ⟨p, ys, rfl, h⟩ := h
  obtain ⟨u, rfl, rx⟩ := vals1 r
  cases rx
  rcases h with ⟨hq, q⟩ | ⟨hq, q⟩
  · obtain ⟨its, r', pl, hz⟩ := I.list hq
    have hlen := r'.length
    refine call_tuple_list pl.isList (fun h' kp => ?_) (by simp only [List.size_toArray] <;> omega)
    have I1 : Inv X pins σ H { s with heap := h' } := I.kept (t' := s.toks) kp
    have I2 : Inv X pins σ (upd H h'.objs.size (.tup ys)) { s with heap := h'.push { cls := .type "tuple", data := .seq its.toArray } } :=
      I1.laid (t' := s.toks) (fun b o e => Heap.get?_push_of_some _ e) (Nat.le_refl _) (show ObjOk X.prog X.w _ _ _ (.tup ys) from ⟨hz, its, r', IsTup.new _ _⟩)
    exact ⟨.ref h'.objs.size, _, I2, rfl, q _ (I1.hok.fresh (Nat.le_refl _))⟩
  · obtain ⟨its, r', pl, hz⟩ := I.tuple hq
    exact call_tuple_same pl ⟨.ref p, H, I, rfl, q⟩

/-! ### the call of a builtin's method: o.m(..) -/
/-- the value is of that builtin type -/
def tyV (K : PySem.W.Frag) (T : String) (x : V) (H : Hp) : Prop := match x with
  | .str _ => T = "str"
  | .int _ => T = "int"
  | .ref p => (T = "list" ∧ ∃ xs, SqL K H p xs) ∨ (T = "tuple" ∧ ∃ o, K.lookup p = some o ∧ o.cls = .type "tuple" ∧ o.dict = none) ∨
      (T = "dict" ∧ ((∃ kvs, H p = some (.dK kvs)) ∨ ∃ kvs, H p = some (.dT kvs))) ∨ (T = "set" ∧ ∃ S n, H p = some (.set S n))
  | _ => False
theorem tyV_is {pins : List (Addr × Obj)} {σ : St} {H : Hp} {s : Shared} {T : String} {x : V} {v : Value} (I : Inv X pins σ H s) (r : RelV x v) (ty : tyV X.K T x H) :
    s.TypeIs v T ∧ ∀ a, v = .ref a → ∃ ob, s.heap.get? a = some ob ∧ ob.dict = none := by
  cases x with
  | str z =>
    obtain ⟨t, rfl⟩ := r
    cases (show T = "str" from ty)
    exact ⟨typeIs_str s z t, fun _ e => nomatch e⟩
  | int i =>
    obtain ⟨t, rfl⟩ := r
    cases (show T = "int" from ty)
    exact ⟨typeIs_int s i t, fun _ e => nomatch e⟩
  | ref p =>
    cases r
    rcases ty with ⟨rfl, xs, hq⟩ | ⟨rfl, o, hk, hc, hd⟩ | ⟨rfl, hk⟩ | ⟨rfl, S, n, hk⟩
    · obtain ⟨its, _, pl, _⟩ := I.list hq
      refine ⟨pl.isList.typeIs, fun a e => ?_⟩
      cases e
      obtain ⟨o, n, e, c, hd, _⟩ := pl
      exact ⟨o, e, hd⟩
    · refine ⟨⟨o, I.kIn p o hk, hc⟩, fun a e => ?_⟩
      cases e
      exact ⟨o, I.kIn _ o hk, hd⟩
    · have z : ∃ o, s.heap.get? p = some o ∧ o.ExactDict := by
        rcases hk with ⟨kvs, hk⟩ | ⟨kvs, hk⟩
        · obtain ⟨_, _, _, _, o, _, _, e, ex, _⟩ := I.hok p _ hk
          exact ⟨o, e, ex⟩
        · obtain ⟨_, _, _, _, o, _, _, e, ex, _⟩ := I.hok p _ hk
          exact ⟨o, e, ex⟩
      obtain ⟨o, e, ex⟩ := z
      refine ⟨⟨o, e, ex.1⟩, fun a e2 => ?_⟩
      cases e2
      exact ⟨o, e, ex.2.1⟩
    · obtain ⟨o, _, _, _, e, ex, _⟩ := I.hok p _ hk
      refine ⟨⟨o, e, ex.1⟩, fun a e2 => ?_⟩
      cases e2
      exact ⟨o, e, ex.2.1⟩
  | _ => exact False.elim ty
def tBM0 (K : PySem.W.Frag) (T : String) (r : V → List V → Hp → VK → Prop) (to : TE) : TE := fun σ H Q => to σ H fun x H1 => tyV K T x H1 ∧ r x [] H1 Q
def tBM (K : PySem.W.Frag) (T : String) (r : V → List V → Hp → VK → Prop) (to : TE) (t : TA) : TE := fun σ H Q => to σ H fun x H1 => tyV K T x H1 ∧ t σ H1 fun xs H2 => r x xs H2 Q
variable {o e : Expr} {es : List Expr} {to : TE} {t : TA} {name : Str} {apos cpos : Pos} {T id : String} {r : V → List V → Hp → VK → Prop}
theorem pe_bm0 (pa : PlainAttrs T) (slot : Slot T name id) (hty : typeOf (.builtin id) = pure (.type "method_descriptor")) (hm : MtR X id r) (ho : PE X o to)
    (hbase : attributeBase o name X.env (eval o X.env) = eval o X.env := by rfl) (hline : (apos.endLine == cpos.line) = true := by rfl) : PE X (.Call (.Attribute o name apos) [] [] cpos) (tBM0 X.K T r to) := by
  intro pins s σ H Q I h
  refine wpAny_Call_method0_late hbase hline (thn (ho pins s σ H _ I h) fun v s1 ⟨x, H1, I1, r1, ty, q1⟩ => ?_)
  obtain ⟨h1, h2⟩ := tyV_is I1 r1 ty
  exact ⟨T, id, pa, slot, hty, h1, h2, Calls.callWith_builtin rfl (PySem.evalArgs_none (hm pins s1 σ H1 x [] v [] Q I1 r1 .nil q1))⟩
theorem pe_bm (pa : PlainAttrs T) (slot : Slot T name id) (hty : typeOf (.builtin id) = pure (.type "method_descriptor")) (hm : MtR X id r) (ho : PE X o to) (ha : PA X (e :: es) t)
    (hbase : attributeBase o name X.env (eval o X.env) = eval o X.env := by rfl)
    (hfew : ((backTo cpos (starEach (e :: es) X.env)).all (fun x => !x.1) && (backToKw cpos (keywordEach [] X.env)).all (fun x => x.1.isSome)
      && decide ((e :: es).length + ([] : List Keyword).length + (if ([] : List Keyword).isEmpty then 0 else 1) < 30)) = true := by rfl)
    (hline : (apos.endLine == cpos.line) = true := by rfl) (hs : starEach (e :: es) X.env = (false, eval e X.env) :: starEach es X.env := by rfl) (hplain : (backTo cpos (starEach es X.env)).any (·.1) = false := by rfl) :
    PE X (.Call (.Attribute o name apos) (e :: es) [] cpos) (tBM X.K T r to t) := by
  intro pins s σ H Q I h
  refine wpAny_Call_method_late hbase hfew hline rfl (thn (ho pins s σ H _ I h) fun v s1 ⟨x, H1, I1, r1, ty, q1⟩ => ?_)
  obtain ⟨h1, h2⟩ := tyV_is I1 r1 ty
  refine ⟨T, id, pa, slot, hty, h1, h2, ?_⟩
  have hA := ha cpos pins s1 σ H1 _ I1 q1
  rw [hs] at hA ⊢
  refine Calls.callWith_builtin (by show (false || (backTo cpos (starEach es X.env)).any (·.1)) = false; rw [hplain] <;> rfl) (Calls.evalArgs_plain ?_)
  exact thn hA fun us s2 ⟨vs, H2, I2, r2, q2⟩ => hm pins s2 σ H2 x vs v us Q I2 r1 r2 q2
/- xs.append(e), list.index on a module's tuple .. are MtR facts of 06m -/
end
end L2

namespace L2
open PySem PySem.Spec PyProof.Rows

def MtM (X : Cx) (id : String) (r : V → List V → Hp → VK → Prop) : Prop :=
  ∀ (pins : List (Addr × Obj)) (s : Shared) (σ : St) (H : Hp) (x : V) (xs : List V) (v : Value) (us : List Value) (Q : VK), Inv X pins σ H s → RelV x v → Vals xs us → r x xs H Q →
    wpAny (model X.prog X.w) X.A (call (.builtin id) (v :: us)) (EP X pins σ Q) X.xe s

/-! ### lists of values -/
theorem Vals.one : ∀ {x : V} {us : List Value}, Vals [x] us → ∃ u, us = [u] ∧ RelV x u
  | _, _, .cons r .nil => ⟨_, rfl, r⟩
theorem Vals.two : ∀ {x y : V} {us : List Value}, Vals [x, y] us → ∃ u v, us = [u, v] ∧ RelV x u ∧ RelV y v
  | _, _, _, .cons r (.cons q .nil) => ⟨_, _, rfl, r, q⟩
theorem Vals.zero : ∀ {us : List Value}, Vals [] us → us = []
  | _, .nil => rfl
theorem Vals.dropLast {xs : List V} {us : List Value} (h : Vals xs us) : Vals xs.dropLast us.dropLast := by
  induction h with
  | nil => exact .nil
  | cons r t ih =>
    cases t with
    | nil => exact .nil
    | cons q t' => exact .cons r ih
theorem Vals.eraseIdx : ∀ {xs : List V} {us : List Value} (i : Nat), Vals xs us → Vals (xs.eraseIdx i) (us.eraseIdx i)
  | _, _, _, .nil => .nil
  | _, _, 0, .cons _ t => t
  | _, _, i + 1, .cons r t => .cons r (Vals.eraseIdx i t)
theorem Vals.reverse {xs : List V} {us : List Value} (h : Vals xs us) : Vals xs.reverse us.reverse := by
  induction h with
  | nil => exact .nil
  | cons r t ih => rw [List.reverse_cons, List.reverse_cons]; exact Vals.append ih (.cons r .nil)
theorem Vals.rep {xs : List V} {us : List Value} (h : Vals xs us) : ∀ k : Nat, Vals (List.replicate k xs).flatten (List.replicate k us).flatten
  | 0 => .nil
  | k + 1 => by
    rw [List.replicate_succ, List.replicate_succ, List.flatten_cons, List.flatten_cons]
    exact Vals.append h (Vals.rep h k)
theorem erase_last {α : Type} (l : List α) : l.eraseIdx (l.length - 1) = l.dropLast := by
  induction l with
  | nil => rfl
  | cons a r ih =>
    cases r with
    | nil => rfl
    | cons b r =>
      have e : (a :: b :: r).length - 1 = ((b :: r).length - 1) + 1 := by
        have h1 : (a :: b :: r).length = r.length + 2 := rfl
        have h2 : (b :: r).length = r.length + 1 := rfl
        omega
      rw [e, List.eraseIdx_cons_succ, ih]
      all_goals rfl
theorem len_erase {α : Type} : ∀ (l : List α) (i : Nat), (l.eraseIdx i).length ≤ l.length
  | [], _ => Nat.le_refl _
  | _ :: _, 0 => Nat.le_succ _
  | _ :: r, i + 1 => Nat.succ_le_succ (len_erase r i)
theorem foldl_rep (its : List Value) : ∀ (k : Nat) (acc : List Value),
    List.foldl (fun x1 x2 => x1 ++ x2) acc.toArray (List.replicate k its.toArray) = (acc ++ (List.replicate k its).flatten).toArray
  | 0, acc => by simp
  | k + 1, acc => by
    have e : acc.toArray ++ its.toArray = (acc ++ its).toArray := by simp
    have e2 : (acc ++ its) ++ (List.replicate k its).flatten = acc ++ (List.replicate (k + 1) its).flatten := by
      rw [List.replicate_succ, List.flatten_cons, List.append_assoc]
    rw [← e2, ← foldl_rep its k (acc ++ its), ← e, List.replicate_succ, List.foldl_cons]

section
variable {X : Cx} {pins : List (Addr × Obj)} {σ : St} {H : Hp} {s : Shared} {l b : Addr} {xs ys zs : List V}

/-! ### the two steps: a tracked list is rewritten, a new list is laid -/
theorem Inv.lset {its its' : List Value} {n : Nat} {f : Array Value → Array Value} {t' : Nat} (I : Inv X pins σ H s) (hH : H l = some (.lst xs))
    (e : s.heap.get? l = some { cls := .type "list", data := .seq its.toArray n }) (hf : f its.toArray = its'.toArray) (hv : Vals ys its') (hz : ys.length ≤ sizeLine) :
    Inv X pins σ (upd H l (.lst ys)) { s with heap := s.heap.update l (Obj.mapSeq f), toks := t' } := by
  have q := PySem.IsL.update e f
  rw [hf] at q
  refine I.write (x := l) (e := l) (by rw [hH]; exact trivial) (.inl rfl) (fun b' u hb hu => (Heap.get?_update_other s.heap (Obj.mapSeq f) (Ne.symm hb)).trans hu) ⟨_, q⟩ ?_
  exact ⟨hz, its', _, hv, q⟩
theorem Inv.lnew {its : List Value} {t' : Nat} (I : Inv X pins σ H s) (hv : Vals ys its) (hz : ys.length ≤ sizeLine) :
    Inv X pins σ (upd H s.heap.objs.size (.lst ys)) { s with heap := s.heap.push { cls := .type "list", data := .seq its.toArray }, toks := t' } :=
  I.laid (fun _ _ q => Heap.get?_push_of_some _ q) (Nat.le_refl _) ⟨hz, its, 0, hv, Heap.get?_push_size _ rfl⟩
theorem Inv.fresh (I : Inv X pins σ H s) : H s.heap.objs.size = none := I.hok.fresh (Nat.le_refl _)
theorem Inv.lstM (I : Inv X pins σ H s) (hH : H l = some (.lst xs)) : xs.length ≤ sizeLine ∧ ∃ (its : List Value) (n : Nat), Vals xs its ∧ xs.length = its.length ∧ s.heap.get? l = some { cls := .type "list", data := .seq its.toArray n } := by
  obtain ⟨z, its, n, r, e⟩ := I.hok l _ hH
  exact ⟨z, its, n, r, r.length, e⟩

theorem notLongL {n : Nat} (h : n ≤ sizeLine) : Builtin.List.listTooLong n = false := by
  unfold Builtin.List.listTooLong
  exact decide_eq_false (by omega)
end

section
variable {X : Cx}

/-! ### methods -/
def rAppend : V → List V → Hp → VK → Prop := fun x vs H Q => ∃ l xs y, x = .ref l ∧ vs = [y] ∧ H l = some (.lst xs) ∧ xs.length < sizeLine ∧ Q .non (upd H l (.lst (xs ++ [y])))
theorem mt_append : MtM X "list.append" rAppend := by
  intro pins s σ H x vs v us Q I rx rv h
  obtain ⟨l, xs, y, rfl, rfl, hH, hz, q⟩ := h
  cases rx
  obtain ⟨u, rfl, ru⟩ := rv.one
  obtain ⟨z, its, n, r, hl, e⟩ := I.lstM hH
  refine call_meets F.slot_list_append ⟨_, e, rfl⟩ F.entry_list_append (F.args_list_append_2 _ _) (PySem.list_append l its.toArray n u (by rw [List.size_toArray]; omega)) ⟨e, ?_⟩
  refine ⟨.non, _, I.lset (its' := its ++ [u]) hH e (by simp) (r.append (.cons ru .nil)) ?_, rfl, q⟩
  rw [List.length_append, List.length_singleton]
  omega

def rExtend : V → List V → Hp → VK → Prop := fun x vs H Q => ∃ l b xs zs, x = .ref l ∧ vs = [.ref b] ∧ H l = some (.lst xs) ∧ H b = some (.lst zs) ∧ xs.length + zs.length ≤ sizeLine ∧ Q .non (upd H l (.lst (xs ++ zs)))
theorem mt_extend : MtM X "list.extend" rExtend := by
  intro pins s σ H x vs v us Q I rx rv h
  obtain ⟨l, b, xs, zs, rfl, rfl, hH, hB, hz, q⟩ := h
  cases rx
  obtain ⟨u, rfl, ru⟩ := rv.one
  cases ru
  obtain ⟨z, its, n, r, hl, e⟩ := I.lstM hH
  obtain ⟨z2, its2, n2, r2, hl2, e2⟩ := I.lstM hB
  have hsz : its.toArray.size + its2.toArray.size ≤ sizeLine := by rw [List.size_toArray, List.size_toArray]; omega
  have hlong : ¬ (!its.toArray.isEmpty && Builtin.List.listTooLong (its.toArray.size + its2.toArray.size)) = true := by
    rw [notLongL hsz, Bool.and_false]
    exact Bool.false_ne_true
  refine call_meets F.slot_list_extend ⟨_, e, rfl⟩ F.entry_list_extend (F.args_list_extend_2 _ _)
    (AutoSeq1.list_extend_list_list_0 l its.toArray n b its2.toArray n2 hlong (by rw [List.size_toArray]; omega) (by omega)) ⟨e, e2, ?_⟩
  refine ⟨.non, _, I.lset (its' := its ++ its2) hH e (by simp) (r.append r2) ?_, rfl, q⟩
  rw [List.length_append]
  omega

def rPop : V → List V → Hp → VK → Prop := fun x vs H Q => ∃ l xs y, x = .ref l ∧ vs = [] ∧ H l = some (.lst xs) ∧ xs[xs.length - 1]? = some y ∧ Q y (upd H l (.lst xs.dropLast))
theorem mt_pop : MtM X "list.pop" rPop := by
  intro pins s σ H x vs v us Q I rx rv h
  obtain ⟨l, xs, y, rfl, rfl, hH, hy, q⟩ := h
  cases rx
  have hus := rv.zero
  subst hus
  obtain ⟨z, its, n, r, hl, e⟩ := I.lstM hH
  obtain ⟨u, hu, ru⟩ := r.get hy
  have hy' : its.toArray[its.toArray.size - 1]? = some u := by
    show its.toArray[its.length - 1]? = some u
    rw [← Array.getElem?_toList, ← hl]
    exact hu
  refine call_meets F.slot_list_pop ⟨_, e, rfl⟩ F.entry_list_pop (F.args_list_pop_1 _) (MeetsSeq.list_pop_last l its.toArray n u hy' (by rw [List.size_toArray]; omega)) ⟨e, ?_⟩
  refine ⟨y, _, I.lset (its' := its.dropLast) hH e ?_ r.dropLast ?_, ru, q⟩
  · show its.toArray.eraseIdxIfInBounds (its.toArray.size - 1) = its.dropLast.toArray
    rw [List.size_toArray, List.eraseIdxIfInBounds_toArray, erase_last]
  · rw [List.length_dropLast]
    omega

def rPopAt : V → List V → Hp → VK → Prop := fun x vs H Q => ∃ l xs i k y, x = .ref l ∧ vs = [.int i] ∧ H l = some (.lst xs) ∧ -(2 ^ 63) ≤ i ∧ i < 2 ^ 63 ∧ seqIndex? i xs.length = some k ∧ xs[k]? = some y ∧ Q y (upd H l (.lst (xs.eraseIdx k)))
theorem mt_popAt : MtM X "list.pop" rPopAt := by
  intro pins s σ H x vs v us Q I rx rv h
  obtain ⟨l, xs, i, k, y, rfl, rfl, hH, h1, h2, hk, hy, q⟩ := h
  cases rx
  obtain ⟨u, rfl, ru⟩ := rv.one
  obtain ⟨t, rfl⟩ := ru
  obtain ⟨z, its, n, r, hl, e⟩ := I.lstM hH
  obtain ⟨w, hw, rw'⟩ := r.get hy
  refine call_meets F.slot_list_pop ⟨_, e, rfl⟩ F.entry_list_pop (F.args_list_pop_2 _ _)
    (MeetsSeq.list_pop_at l its.toArray n i t k w (fitsIndex_both h1 h2) (by rw [List.size_toArray, ← hl]; exact hk) (by rw [← Array.getElem?_toList]; exact hw) (by rw [List.size_toArray]; omega)) ⟨e, ?_⟩
  refine ⟨y, _, I.lset (its' := its.eraseIdx k) hH e ?_ (r.eraseIdx k) ?_, rw', q⟩
  · show its.toArray.eraseIdxIfInBounds k = (its.eraseIdx k).toArray
    rw [List.eraseIdxIfInBounds_toArray]
  · have := len_erase xs k
    omega

def rReverse : V → List V → Hp → VK → Prop := fun x vs H Q => ∃ l xs, x = .ref l ∧ vs = [] ∧ H l = some (.lst xs) ∧ Q .non (upd H l (.lst xs.reverse))
theorem mt_reverse : MtM X "list.reverse" rReverse := by
  intro pins s σ H x vs v us Q I rx rv h
  obtain ⟨l, xs, rfl, rfl, hH, q⟩ := h
  cases rx
  have hus := rv.zero
  subst hus
  obtain ⟨z, its, n, r, hl, e⟩ := I.lstM hH
  refine call_meets F.slot_list_reverse ⟨_, e, rfl⟩ F.entry_list_reverse (F.args_list_reverse_1 _) (AutoSeq1.list_reverse_list_0 l its.toArray n (by rw [List.size_toArray]; omega)) ⟨e, ?_⟩
  refine ⟨.non, _, I.lset (its' := its.reverse) hH e (by simp) r.reverse ?_, rfl, q⟩
  rw [List.length_reverse]
  omega

def rClear : V → List V → Hp → VK → Prop := fun x vs H Q => ∃ l xs, x = .ref l ∧ vs = [] ∧ H l = some (.lst xs) ∧ Q .non (upd H l (.lst []))
theorem mt_clear : MtM X "list.clear" rClear := by
  intro pins s σ H x vs v us Q I rx rv h
  obtain ⟨l, xs, rfl, rfl, hH, q⟩ := h
  cases rx
  have hus := rv.zero
  subst hus
  obtain ⟨z, its, n, r, hl, e⟩ := I.lstM hH
  refine call_meets F.slot_list_clear ⟨_, e, rfl⟩ F.entry_list_clear (F.args_list_clear_1 _) (AutoSeq1.list_clear_list_0 l its.toArray n (by rw [List.size_toArray]; omega)) ⟨e, ?_⟩
  exact ⟨.non, _, I.lset (its' := []) (ys := []) hH e rfl .nil (Nat.zero_le _), rfl, q⟩

/-! ### list + list, list += list, list * int -/
def rCat : R2 := fun x y H Q => ∃ l b xs zs, x = .ref l ∧ y = .ref b ∧ H l = some (.lst xs) ∧ H b = some (.lst zs) ∧ xs.length + zs.length ≤ sizeLine ∧ ∀ p, H p = none → Q (.ref p) (upd H p (.lst (xs ++ zs)))
theorem op_cat : OpR X (binaryOp .Add) rCat := by
  intro pins s σ H x y v u Q I rx ry h
  obtain ⟨l, b, xs, zs, rfl, rfl, hH, hB, hz, q⟩ := h
  cases rx
  cases ry
  obtain ⟨z, its, n, r, hl, e⟩ := I.lstM hH
  obtain ⟨z2, its2, n2, r2, hl2, e2⟩ := I.lstM hB
  refine PySem.P.add_list e e2 ?_ (by rw [List.size_toArray, List.size_toArray]; omega)
  have ea : its.toArray ++ its2.toArray = (its ++ its2).toArray := by simp
  rw [ea]
  exact ⟨.ref _, _, I.lnew (t' := s.toks) (r.append r2) (by rw [List.length_append]; omega), rfl, q _ I.fresh⟩
/-- a list times an int (a negative one is nothing) -/
def rRep : R2 := fun x y H Q => ∃ l k xs, x = .ref l ∧ y = .int k ∧ H l = some (.lst xs) ∧ -(2 ^ 63) ≤ k ∧ k < 2 ^ 63 ∧ xs.length * k.toNat ≤ sizeLine ∧
  ∀ p, H p = none → Q (.ref p) (upd H p (.lst (List.replicate k.toNat xs).flatten))
theorem len_rep {α : Type} (xs : List α) (k : Nat) : (List.replicate k xs).flatten.length = k * xs.length := by
  induction k with
  | zero => simp
  | succ k ih => rw [List.replicate_succ, List.flatten_cons, List.length_append, ih, Nat.succ_mul, Nat.add_comm]
theorem op_rep : OpR X (binaryOp .Mult) rRep := by
  intro pins s σ H x y v u Q I rx ry h
  obtain ⟨l, k, xs, rfl, rfl, hH, h1, h2, hz, q⟩ := h
  cases rx
  obtain ⟨t, rfl⟩ := ry
  obtain ⟨z, its, n, r, hl, e⟩ := I.lstM hH
  have hlen : its.toArray.size * k.toNat ≤ sizeLine := by rw [List.size_toArray, ← hl]; exact hz
  have hcap : ¬ its.toArray.size * k.toNat > (2 ^ 63 - 1) / 8 := by
    have : (sizeLine : Nat) ≤ (2 ^ 63 - 1) / 8 := by decide
    omega
  have hfit : ¬ (!Builtin.List.listFitsIndex k) = true := by
    rw [fitsIndex_both h1 h2]
    exact Bool.false_ne_true
  have hlong : ¬ Builtin.List.listTooLong (its.toArray.size * k.toNat) = true := by
    rw [notLongL hlen]
    exact Bool.false_ne_true
  have hnew : List.foldl (fun x1 x2 => x1 ++ x2) #[] (List.replicate (if its.toArray.isEmpty = true then 0 else k.toNat) its.toArray) = (List.replicate k.toNat its).flatten.toArray := by
    have f0 : ∀ m : Nat, List.foldl (fun x1 x2 => x1 ++ x2) #[] (List.replicate m its.toArray) = (List.replicate m its).flatten.toArray := fun m => by
      have := foldl_rep its m []
      rw [List.nil_append] at this
      exact this
    rw [f0]
    cases its with
    | nil => simp
    | cons a r' => rw [if_neg (by simp)]
  refine wpAny_binaryOp_repeat_ref (T := "list") (U := "int") (by decide) ⟨_, e, rfl⟩ (fun s' => typeIs_int s' k t) noFill_list_mul F.fills_int_mul F.slot_int_rmul repeat_list F.slot_int_index.lookup
    (call_meets F.slot_int_rmul (typeIs_int s k t) F.entry_int_rmul (F.args_int_rmul_2 _ _) (int___rmul___int_list k t l its.toArray n)
      ⟨e, rfl, ⟨_, e, rfl⟩, call_meets F.slot_list_mul ⟨_, e, rfl⟩ F.entry_list_mul (F.args_list_mul_2 _ _) (AutoListH.list___mul___list_int_3 l its.toArray n k t hfit hcap hlong) ⟨e, ?_⟩⟩)
  rw [hnew]
  exact ⟨.ref _, _, I.lnew (t' := s.toks) (r.rep k.toNat) (by rw [len_rep, Nat.mul_comm]; exact hz), rfl, q _ I.fresh⟩

/-! ### del xs[i] -/
theorem del_list {pins : List (Addr × Obj)} {s : Shared} {σ : St} {H : Hp} {l : Addr} {xs : List V} {i : Int} {t : Tok} {k : Nat} {Q : Unit → Shared → Prop} (I : Inv X pins σ H s) (hH : H l = some (.lst xs))
    (h1 : -(2 ^ 63) ≤ i) (h2 : i < 2 ^ 63) (hk : seqIndex? i xs.length = some k) (h : ∀ s', Inv X pins σ (upd H l (.lst (xs.eraseIdx k))) s' → Q () s') :
    wpAny (model X.prog X.w) X.A (delItem (.ref l) (.int i t)) Q X.xe s := by
  obtain ⟨z, its, n, r, hl, e⟩ := I.lstM hH
  refine PySem.P.delItem_list (k := k) e (fitsIndex_both h1 h2) (by rw [List.size_toArray, ← hl]; exact hk) (h _ ?_) (by rw [List.size_toArray]; omega)
  refine I.lset (its' := its.eraseIdx k) (t' := s.toks) hH e ?_ (r.eraseIdx k) ?_
  · show its.toArray.eraseIdxIfInBounds k = (its.eraseIdx k).toArray
    rw [List.eraseIdxIfInBounds_toArray]
  · have := len_erase xs k
    omega
end

/-! ### xs[a:b] = ys -/
section
variable {prog : Program} {w : World} {A : Around} {E : Value → Shared → Prop} {s : Shared}
theorem splice_eq (its its2 : List Value) (a c : Nat) : its.toArray.extract 0 a ++ its2.toArray ++ its.toArray.extract c its.toArray.size = (its.take a ++ its2 ++ its.drop c).toArray := by
  apply Array.toList_inj.mp
  first
    | (simp
       exact List.take_of_length_le (by simp))
    | simp [List.take_of_length_le]
    | simp
theorem bounds_run {a c n : Nat} (hac : a ≤ c) (hc : c ≤ n) : sliceBounds (some (a : Int)) (some (c : Int)) none n = ((a : Int), (c : Int), 1) := by
  simp only [sliceBounds, Option.getD_none]
  have h1 : ¬ ((a : Int) < 0) := by omega
  have h2 : ¬ ((c : Int) < 0) := by omega
  simp only [h1, h2, if_false, show (1 : Int) > 0 by decide, if_true]
  congr 1
  · omega
  · congr 1; omega
set_option maxRecDepth 100000 in
/-- list.__setitem__ with a slice of step one and another list -/
theorem setItem_slice {l b sl : Addr} {items new : Array Value} {n n2 : Nat} {vl vu : Value} {a c : Nat} {Q : Unit → Shared → Prop}
    (e : s.heap.get? l = some { cls := .type "list", data := .seq items n }) (e2 : s.heap.get? b = some { cls := .type "list", data := .seq new n2 }) (hne : l ≠ b)
    (hs : s.heap.IsSliceOf sl vl vu .none) (pl : IsPart vl (some (a : Int))) (pu : IsPart vu (some (c : Int))) (hac : a ≤ c) (hc : c ≤ items.size)
    (hsz : items.size + new.size ≤ sizeLine) (h : Q () { s with heap := s.heap.update l (Obj.mapSeq fun xs => xs.extract 0 a ++ new ++ xs.extract c xs.size) }) :
    wpAny (model prog w) A (setItem (.ref l) (.ref sl) (.ref b)) Q E s := by
  have hl : s.heap.IsList l items := PySem.IsL.isList e
  have hb : s.heap.IsList b new := PySem.IsL.isList e2
  obtain ⟨os, hos, hcs, hds⟩ := id hs
  have hTs : s.TypeIs (.ref sl) "slice" := ⟨os, hos, hcs⟩
  have hstep : ¬ ((rawPart none == rawInt 0) = true) := Bool.false_ne_true
  have hsame : Builtin.List.listSameRef (.ref l) (.ref b) = false := by
    unfold Builtin.List.listSameRef
    exact beq_eq_false_iff_ne.mpr hne
  have hmax : (max (a : Int) (c : Int)).toNat = c := by omega
  have hz' : ((fun xs : Array Value => xs.extract 0 a ++ new ++ xs.extract c xs.size) items).size ≤ sizeLine + 1 := by
    simp only [Array.size_append, Array.size_extract]
    omega
  unfold setItem
  try with_reducible refine wpAny_holding ?_
  first | refine wpAny_bind (wpAny_pure ?_) | skip
  refine wpAny_bind (wpAny_sequenceKey hl.typeIs (by decide) ?_)
  refine wpAny_bind (wpAny_callSpecial?_slot (name := Str.ofString "__setitem__") hl.typeIs slot_list_setitem
    (wpAny_call_entry slot_list_setitem hl.typeIs entry_list_setitem ?_ (args_list_setitem _ _ _)))
  show wpAny _ _ (Builtin.List.listSubscript? (.ref sl) >>= _) _ _ s
  refine wpAny_bind ?_
  unfold Builtin.List.listSubscript?
  refine wpAny_bind (wpAny_specialOf hTs slice_no_index ?_)
  simp only [Option.isNone_none, if_true]
  refine wpAny_pure ?_
  show wpAny _ _ (typeOf (.ref sl) >>= _) _ _ s
  refine wpAny_bind (wpAny_typeOf hTs ?_)
  first
    | rw [if_neg (by decide)]
    | refine PySem.W.KFB.if_not (by decide) ?_
  rw [listSliceParts_eq]
  refine wpAny_bind (wpAny_bind (wpAny_field hos hds (x := .none) rfl (wpAny_bind (wpAny_listPart .none ?_))))
  rw [if_neg hstep]
  refine wpAny_bind (wpAny_field hos hds (x := vl) rfl (wpAny_bind (wpAny_listPart pl ?_)))
  refine wpAny_bind (wpAny_field hos hds (x := vu) rfl (wpAny_bind (wpAny_listPart pu (wpAny_pure ?_))))
  first
    | simp only [hsame, Bool.false_eq_true, if_false]
    | refine PySem.W.KFB.if_not hsame ?_
    | (dsimp only
       rw [if_neg (by rw [hsame]; exact Bool.false_ne_true)])
  refine wpAny_bind (m := Builtin.List.listAllItems (.ref b) "must assign iterable to extended slice") ?_
  unfold Builtin.List.listAllItems
  refine wpAny_bind (wpAny_typeOf hb.typeIs ?_)
  first
    | refine PySem.W.KFB.if_so (by decide) ?_
    | rw [if_pos (by decide)]
    | simp only [beq_self_eq_true, Bool.true_or, if_true]
  unfold Builtin.List.listItems
  refine wpAny_bind (wpAny_seqItems e2 rfl (wpAny_pure ?_))
  refine wpAny_bind (wpAny_bind (wpAny_seqItems e rfl (wpAny_pure ?_)))
  refine wpAny_bind (wpAny_of_eq ((sliceIndices_raw (some (a : Int)) (some (c : Int)) none items.size (by simp)).trans (congrArg (pure : Int × Int × Int → Sem (Int × Int × Int)) (bounds_run hac hc))) ?_)
  show wpAny _ _ (if ((1 : Int) == 1) = true then _ else _) _ _ s
  rw [if_pos (by decide)]
  refine wpAny_bind (wpAny_rule ?_)
  first
    | simp only [notLongL hsz, Bool.false_eq_true, if_false]
    | refine PySem.W.KFB.if_not (notLongL hsz) ?_
  first | refine wpAny_bind (wpAny_pure ?_) | skip
  show wpAny _ _ (updateSeq l (fun xs => xs.extract 0 ((a : Int)).toNat ++ new ++ xs.extract (max (a : Int) (c : Int)).toNat xs.size) >>= _) _ _ s
  rw [hmax, Int.toNat_natCast]
  refine wpAny_bind (wpAny_updateSeq (hz := Nat.le_trans (Nat.le_add_right _ _) hsz) (_hz' := hz') e rfl ?_)
  refine wpAny_bind (wpAny_letGo ?_)
  first
    | exact wpAny_bind (wpAny_pure (wpAny_pure ⟨.none, rfl, wpAny_pure h⟩))
    | exact wpAny_pure ⟨.none, rfl, wpAny_pure h⟩
end

section
variable {X : Cx}
/-- xs[a:c] = ys of another list, at the value level: sl is the slice object that was just made -/
theorem set_slice {pins : List (Addr × Obj)} {s : Shared} {σ : St} {H : Hp} {l b sl : Addr} {xs ys : List V} {a c : Int} {vl vu : Value} {Q : Unit → Shared → Prop} (I : Inv X pins σ H s)
    (hH : H l = some (.lst xs)) (hB : H b = some (.lst ys)) (hne : l ≠ b) (hs : s.heap.IsSliceOf sl vl vu .none) (ra : RelV (.int a) vl) (rc : RelV (.int c) vu) (h0 : 0 ≤ a) (hac : a ≤ c) (hc : c ≤ xs.length)
    (hz : xs.length + ys.length ≤ sizeLine) (h : ∀ s', Inv X pins σ (upd H l (.lst (xs.take a.toNat ++ ys ++ xs.drop c.toNat))) s' → Q () s') :
    wpAny (model X.prog X.w) X.A (setItem (.ref l) (.ref sl) (.ref b)) Q X.xe s := by
  obtain ⟨ta, rfl⟩ := ra
  obtain ⟨tc, rfl⟩ := rc
  obtain ⟨z, its, n, r, hl, e⟩ := I.lstM hH
  obtain ⟨z2, its2, n2, r2, hl2, e2⟩ := I.lstM hB
  obtain ⟨a', rfl⟩ := Int.eq_ofNat_of_zero_le h0
  obtain ⟨c', rfl⟩ := Int.eq_ofNat_of_zero_le (Int.le_trans h0 hac)
  simp only [Int.toNat_natCast] at h
  refine setItem_slice (a := a') (c := c') e e2 hne hs (.int _ _) (.int _ _) (by omega) (by rw [List.size_toArray]; omega) (by rw [List.size_toArray, List.size_toArray]; omega) (h _ ?_)
  refine I.lset (its' := its.take a' ++ its2 ++ its.drop c') (t' := s.toks) hH e ?_ (Vals.append (Vals.append (r.take _) r2) (r.drop _)) ?_
  · exact splice_eq its its2 a' c'
  · rw [List.length_append, List.length_append, List.length_take, List.length_drop]
    omega
end
end L2

namespace Att
open PySem PySem.W PySem.Calls PyProof.Rows

/-! ### the script -/
theorem ints_of_wellAll {P : Params} {h : Heap} : ∀ (ns : List Int) (vs : List Value), WellAll P h vs (ns.map WData.int) → IntsAre vs ns := by
  intro ns
  induction ns with
  | nil =>
    intro vs w
    rw [List.map_nil] at w
    cases w
    exact .nil
  | cons n ns ih =>
    intro vs w
    rw [List.map_cons] at w
    cases w with
    | cons a b =>
      cases a
      exact .cons _ _ (ih _ b)

theorem script_of {l : OpenLaw} {n : Nat} (hn : l.most = some n) {P : Params} {h : Heap} {args : List WData} {vals : List Value}
    (hpre : l.row.toRowW.claim.pre args = true) (hwl : WellAll P h vals args) :
    ∃ a vs ns, vals = [Value.ref a] ∧ args = [WData.list (ns.map WData.int)] ∧ h.get? a = some { cls := .type "list", data := .seq vs.toArray } ∧ IntsAre vs ns ∧ ns.length ≤ n := by
  have hsh : WShape.hasAll [] args [.list .int] = true := (pre_splitW hpre).1
  have hc : l.pre.holds [] { args := args } = true := (pre_splitW hpre).2
  obtain ⟨d, r, rfl, h1, h2⟩ := hasAllW_cons hsh
  obtain rfl := hasAllW_nil h2
  obtain ⟨xs, rfl, h3⟩ := hasW_list h1
  obtain ⟨ns, rfl⟩ := items_int h3
  have hlen : ns.length ≤ n := by
    unfold OpenLaw.pre at hc
    have h4 : (WTm.not (.lt (.lit (.int (n : Int))) (.len (.arg 0)))).holds [] { args := [.list (ns.map .int)] } = true := by
      have h4 := (holds_andW hc).1
      rw [hn] at h4
      exact h4
    have h5 := condW_of h4 (w_not (w_lt w_lit (w_len_list (w_arg rfl))))
    rw [List.length_map] at h5
    refine Nat.le_of_not_lt fun q => ?_
    have q' : (n : Int) < ((ns.length : Nat) : Int) := by omega
    first
      | (rw [decide_eq_true q'] at h5; exact absurd h5 (by decide))
      | (simp at h5; omega)
  cases hwl with
  | cons w1 w2 =>
    cases w2
    cases w1 with
    | list ho hall => exact ⟨_, _, ns, rfl, rfl, ho, ints_of_wellAll ns _ hall, hlen⟩

theorem post_true (l : OpenLaw) (args : List WData) : l.row.toRowW.claim.post args (.bool true) args = true :=
  postW_of (r := l.row.toRowW) (X := (true == true))
    (show WShape.has [] (.bool true) .bool = true by first | rfl | decide | simp [WShape.has, WShape.arms, WShape.armsAll])
    (show (WTm.eq .res (.lit (.bool true))).value [] { args := args, res := some (.bool true), after := args } = some (.bool (true == true)) from w_eq_bool (w_res rfl) w_lit) rfl

/-! ### the attachment: holds_open's last premise (the goal 'hc' behind k_head) from a wpAny of the law's body -/
theorem attach {l : OpenLaw} {n : Nat} {q : Program} {loose : List Str} {XP : (Str → Option Value) → Heap → Prop} {YP : World → Heap → Prop} {d : DefRec} {x : Str}
    (hn : l.most = some n) (hdf : d.params.defaults = [])
    (hbind : ∀ pm cd doc v : Value, bindArgs (docDef d.name d.params d.body d.scope pm cd doc) ⟨[v], []⟩ = pure [(x, v)])
    (hx : d.scope.names.lookup x = some .local ∨ d.scope.names.lookup x = some .cell)
    (hk : d.scope.kind = .function) (hco : d.scope.isCoroutine = false) (hgen : d.scope.isGenerator = false)
    (body : ∀ (w : World) (s₀ s₁ s : Shared) (mg mb : Str → Option Value) (fa : Addr) (o : Obj) (pm cd doc : Value) (a : Addr) (vs : List Value) (ns : List Int),
      Ground q loose [] XP w s₀ mg mb s₁.heap → YP w s₁.heap →
      s₁.heap.get? fa = some o → o.data = .func (docDef d.name d.params d.body d.scope pm cd doc) → s₁.heap.CodeRec cd d.name → mg d.name = some (.ref fa) →
      s₁.heap.get? a = some { cls := .type "list", data := .seq vs.toArray } → IntsAre vs ns → ns.length ≤ n →
      s.gens = #[] → s.os = s₁.os →
      Fr s₁.heap s₁.heap.objs.size s.heap (bindL (envOfC d.name d.scope s₁.heap.objs.size fa cd).kindOf [(x, .ref a)] fun _ => none) →
      Cl s₁.heap.objs.size (cellsFrom (s₁.heap.objs.size + 1) d.scope.names []) s.heap (bindC (envOfC d.name d.scope s₁.heap.objs.size fa cd).kindOf [(x, .ref a)] fun _ => none) →
      wpAny (model l.prog w) (callerA.deeper (envOfC d.name d.scope s₁.heap.objs.size fa cd)) (execs d.body (envOfC d.name d.scope s₁.heap.objs.size fa cd))
        (fun f s' => f = .ret (.bool true) ∧ OldK s₁.heap s'.heap ∧ s'.os = s₁.os ∧ AllBare s'.gens) (fun _ _ => False) s) :
    WalkO q loose XP YP l.row.toRowW d [] (fun f vs => PySem.call f vs) := by
  intro w s₀ s₁ mg mb G Y fa o pm cd doc dV kV ho hd hcd hD hmg hg args vals as hpre hlay hrd hwl hlo
  obtain rfl : dV = .none := Dflts.none hD hdf
  obtain rfl : kV = .none := Dflts.noKw hD
  obtain ⟨a, vs, ns, rfl, rfl, hobj, hints, hlen⟩ := script_of hn hpre hwl
  refine enter_call ?_
  refine call_cells_ret (o := o) (by rw [depth_caller]; decide) ho (fd_plain hd) G.T.nolimit hcd (hbind pm cd doc (.ref a)) (fun y hy => ?_) (fun h₁ tk F X => ?_) hco hgen hk
  · obtain rfl : y = (x, Value.ref a) := List.mem_singleton.mp hy
    rcases hx with e | e
    · exact .inl e
    · exact .inr ⟨e, cellsFrom_some _ _ _ (.inl e)⟩
  · refine wpAny_mono (body w s₀ s₁ { s₁ with heap := h₁, toks := tk } mg mb fa o pm cd doc a vs ns G Y ho (fd_plain hd) hcd hmg hobj hints hlen hg rfl F X) (fun f s' hq => ?_) (fun _ _ hq => hq)
    obtain ⟨rfl, h2, h3, h4⟩ := hq
    exact ⟨.inl ⟨.bool true, .bool true, [], rfl, fun _ => rfl, .bool true, post_true l _, fun _ => ⟨List.Pairwise.nil, fun _ hm => (nomatch hm)⟩⟩, h2, h3, h4⟩

/-- the same from a codeAny of the CALL (for a layer whose function contracts speak of calls) -/
theorem attach_call {l : OpenLaw} {n : Nat} {q : Program} {loose : List Str} {XP : (Str → Option Value) → Heap → Prop} {YP : World → Heap → Prop} {d : DefRec}
    (hn : l.most = some n) (hdf : d.params.defaults = [])
    (call : ∀ (w : World) (s₀ s₁ : Shared) (mg mb : Str → Option Value) (fa : Addr) (o : Obj) (pm cd doc : Value) (a : Addr) (vs : List Value) (ns : List Int),
      Ground q loose [] XP w s₀ mg mb s₁.heap → YP w s₁.heap →
      s₁.heap.get? fa = some o → o.data = .func (docDef d.name d.params d.body d.scope pm cd doc) → s₁.heap.CodeRec cd d.name → mg d.name = some (.ref fa) →
      s₁.heap.get? a = some { cls := .type "list", data := .seq vs.toArray } → IntsAre vs ns → ns.length ≤ n → s₁.gens = #[] →
      codeAny (model l.prog w) callerA (.call (.ref fa) ⟨[.ref a], []⟩) (fun r s' => r = .ok (.ret (.bool true)) ∧ OldK s₁.heap s'.heap ∧ s'.os = s₁.os ∧ AllBare s'.gens) s₁) :
    WalkO q loose XP YP l.row.toRowW d [] (fun f vs => PySem.call f vs) := by
  intro w s₀ s₁ mg mb G Y fa o pm cd doc dV kV ho hd hcd hD hmg hg args vals as hpre hlay hrd hwl hlo
  obtain rfl : dV = .none := Dflts.none hD hdf
  obtain rfl : kV = .none := Dflts.noKw hD
  obtain ⟨a, vs, ns, rfl, rfl, hobj, hints, hlen⟩ := script_of hn hpre hwl
  refine enter_call (codeAny_mono (call w s₀ s₁ mg mb fa o pm cd doc a vs ns G Y ho (fd_plain hd) hcd hmg hobj hints hlen hg) fun r s' hq => ?_)
  obtain ⟨rfl, h2, h3, h4⟩ := hq
  exact ⟨.inl ⟨.bool true, .bool true, [], rfl, fun _ => rfl, .bool true, post_true l _, fun _ => ⟨List.Pairwise.nil, fun _ hm => (nomatch hm)⟩⟩, h2, h3, h4⟩

/-- the same where the top left finished generators (o_head chose holds_openN): nothing may have changed at all and no generator may be left -/
theorem attachN {l : OpenLaw} {n : Nat} {q : Program} {loose : List Str} {XP : (Str → Option Value) → Heap → Prop} {YP : World → Heap → Prop} {d : DefRec} {x : Str}
    (hn : l.most = some n) (hdf : d.params.defaults = [])
    (hbind : ∀ pm cd doc v : Value, bindArgs (docDef d.name d.params d.body d.scope pm cd doc) ⟨[v], []⟩ = pure [(x, v)])
    (hx : d.scope.names.lookup x = some .local ∨ d.scope.names.lookup x = some .cell)
    (hk : d.scope.kind = .function) (hco : d.scope.isCoroutine = false) (hgen : d.scope.isGenerator = false)
    (body : ∀ (w : World) (s₀ s₁ s : Shared) (mg mb : Str → Option Value) (fa : Addr) (o : Obj) (pm cd doc : Value) (a : Addr) (vs : List Value) (ns : List Int),
      Ground q loose [] XP w s₀ mg mb s₁.heap → YP w s₁.heap →
      s₁.heap.get? fa = some o → o.data = .func (docDef d.name d.params d.body d.scope pm cd doc) → s₁.heap.CodeRec cd d.name → mg d.name = some (.ref fa) →
      s₁.heap.get? a = some { cls := .type "list", data := .seq vs.toArray } → IntsAre vs ns → ns.length ≤ n →
      s.gens = #[] → s.os = s₁.os →
      Fr s₁.heap s₁.heap.objs.size s.heap (bindL (envOfC d.name d.scope s₁.heap.objs.size fa cd).kindOf [(x, .ref a)] fun _ => none) →
      Cl s₁.heap.objs.size (cellsFrom (s₁.heap.objs.size + 1) d.scope.names []) s.heap (bindC (envOfC d.name d.scope s₁.heap.objs.size fa cd).kindOf [(x, .ref a)] fun _ => none) →
      wpAny (model l.prog w) (callerA.deeper (envOfC d.name d.scope s₁.heap.objs.size fa cd)) (execs d.body (envOfC d.name d.scope s₁.heap.objs.size fa cd))
        (fun f s' => f = .ret (.bool true) ∧ (∀ b o, s₁.heap.get? b = some o → s'.heap.get? b = some o) ∧ s'.os = s₁.os ∧ s'.gens = #[]) (fun _ _ => False) s) :
    WalkN q loose XP YP l.row.toRowW d [] (fun f vs => PySem.call f vs) := by
  intro w s₀ s₁ mg mb G Y fa o pm cd doc dV kV ho hd hcd hD hmg hg args vals as hpre hlay hrd hwl hlo
  obtain rfl : dV = .none := Dflts.none hD hdf
  obtain rfl : kV = .none := Dflts.noKw hD
  obtain ⟨a, vs, ns, rfl, rfl, hobj, hints, hlen⟩ := script_of hn hpre hwl
  refine enter_callW ?_
  refine call_cells_ret (o := o) (by rw [depth_caller]; decide) ho (fd_plain hd) G.T.nolimit hcd (hbind pm cd doc (.ref a)) (fun y hy => ?_) (fun h₁ tk F X => ?_) hco hgen hk
  · obtain rfl : y = (x, Value.ref a) := List.mem_singleton.mp hy
    rcases hx with e | e
    · exact .inl e
    · exact .inr ⟨e, cellsFrom_some _ _ _ (.inl e)⟩
  · refine wpAny_mono (body w s₀ s₁ { s₁ with heap := h₁, toks := tk } mg mb fa o pm cd doc a vs ns G Y ho (fd_plain hd) hcd hmg hobj hints hlen hg rfl F X) (fun f s' hq => ?_) (fun _ _ hq => hq)
    obtain ⟨rfl, h2, h3, h4⟩ := hq
    exact ⟨.inl ⟨.bool true, .bool true, [], rfl, fun _ => rfl, .bool true, post_true l _, fun _ => ⟨List.Pairwise.nil, fun _ hm => (nomatch hm)⟩⟩, h2, h3, h4⟩

/-! ### rules over ANY heap (no ledger) from facts about the written part K: the library's own take a ledger (News) for what they write -/
section
variable {prog : Program} {w : World} {A : Around} {E : Value → Shared → Prop} {s : Shared} {K : Frag}

/-- a def of the module, or a method (qual 'C.m'), entered: the frame is the next address; cells behind it -/
theorem call_fn {R : Result → Shared → Prop} {name qual : Str} {params : Arguments} {body : List Stmt} {scope : Scope} {dV kV doc pm cdv ct oc : Value} {an od : Option Addr} {osl : Array (Option Value)} {f : Addr} {args : Args} {binds : List (Str × Value)}
    (X : K.In s.heap) (hlim : s.heap.NoLimit) (ho : K.lookup f = some ⟨oc, od, .func (fnOf name qual params body scope dV kV doc pm an cdv ct), osl⟩) (hcd : codeIn K cdv qual = true) (hroom : A.depth < recursionLimit)
    (hbind : BindsTo s (fnOf name qual params body scope dV kV doc pm an cdv ct) args binds)
    (hkind : (binds.all fun y => scope.names.lookup y.1 == some .local || scope.names.lookup y.1 == some .cell) = true)
    (h : ∀ s₁, InCallC s s.heap.objs.size (bindL (envOfC qual scope s.heap.objs.size f cdv).kindOf binds fun _ => none) (cellsFrom (s.heap.objs.size + 1) scope.names [])
        (bindC (envOfC qual scope s.heap.objs.size f cdv).kindOf binds fun _ => none) s₁ →
      wpAny (model prog w) (A.deeper (envOfC qual scope s.heap.objs.size f cdv)) (execs body (envOfC qual scope s.heap.objs.size f cdv))
        (fun fl s' => R (.ok (.ret (match fl with | .ret v => v | _ => .none))) s')
        (fun e s' => wpAny (model prog w) (A.deeper (envOfC qual scope s.heap.objs.size f cdv)) (leaving (envOfC qual scope s.heap.objs.size f cdv) e) (fun _ s'' => R (.error e) s'') (fun e' s'' => R (.error e') s'') s') s₁)
    (hco : scope.isCoroutine = false) (hgen : scope.isGenerator = false) (hk : scope.kind = .function) : codeAny (model prog w) A (.call (.ref f) args) R s := by
  refine codeAny_call_function hroom (X _ _ ho) rfl hco hgen rfl (codeRec_of X hcd) (hbind _ _ _ _ ?_)
  refine wpAny_newFunctionEnv_cells hk (kindsX hkind _) fun env he s₁ x => ?_
  subst he
  exact ⟨hlim.keeps x.toInCall.keep, codeAny_func (h s₁ x)⟩

/-- C(..): dict at size, instance at size + 1, then __init__ -/
theorem make_obj {R : Result → Shared → Prop} {C fI : Addr} {rest : List Value} {kw : List (Str × Value)}
    (X : K.In s.heap) (hm : makesIn K C = true) (hi : findIn K (.ref C) "__init__" = some (some (.ref fI))) (hf : isFn K (.ref fI) = true)
    (h : codeAny (model prog w) (A.under (.builtin "type.__call__" ⟨.ref C :: rest, kw⟩)) (.call (.ref fI) ⟨.ref (s.heap.objs.size + 1) :: rest, kw⟩) (InitBack (s.heap.objs.size + 1) R)
      { s with heap := (s.heap.push emptyDict).push (instObj C s.heap.objs.size) }) : codeAny (model prog w) A (.call (.ref C) ⟨rest, kw⟩) R s := by
  obtain ⟨hh, g, d, t, os⟩ := s
  exact make_core (makes_of X hm) (looks_findIn X hi) (fun self => bind_fn X self (beq_iff_eq.mp hf)) (.inl rfl) h

/-- x.name where the instance's dict holds the name and the class does not -/
theorem get_field {x C : Addr} {ox : Obj} {es : List DictEntry} {n : Nat} {name : Str} {expr : Bool} {v : Value} {Q : Value → Shared → Prop}
    (X : K.In s.heap) (I : PySem.W.InstAt s.heap x ox C (some (dictOf es n))) (hg : plainGet K C name = true) (hh : hasDictIn K C = true) (ha : findIn K (.ref C) name = some none)
    (hl : getL name es = some (some v)) (hv : handedIn v = true) (h : Q v { s with toks := s.toks + 1 }) : wpAny (model prog w) A (getAttr (.ref x) name expr) Q E s :=
  get_value X I (plainGet_of hg).1 (findObj_own hh ha rfl hl) hv h

/-- x.m(..): the method found in the class -/
theorem get_method {x C f : Addr} {ox : Obj} {es : List DictEntry} {n : Nat} {name : Str} {pl : Sem Bool} {Q : Value × List Value → Shared → Prop}
    (X : K.In s.heap) (I : PySem.W.InstAt s.heap x ox C (some (dictOf es n))) (hg : plainGet K C name = true) (hf : findIn K (.ref C) name = some (some (.ref f))) (ht : isFn K (.ref f) = true)
    (hl : getL name es = some none) (h : Q (.ref f, [.ref x]) s) : wpAny (model prog w) A (getMethod (.ref x) name pl) Q E s :=
  method_fn X I (plainGet_of hg).1 (plainGet_of hg).2 hf (beq_iff_eq.mp ht) (by show (lookIn name (dictOf es n)).map _ = _; rw [lookIn_dict, hl]; rfl) h

/-! the whole heap as the ledger: makes every rule that writes through a ledger a rule over any heap -/
def noObjs (h : Heap) : Heap := { h with objs := #[] }
theorem noObjs_get (h : Heap) (b : Addr) : (noObjs h).get? b = none := by
  cases e : (noObjs h).get? b with
  | none => rfl
  | some o => exact absurd (Heap.lt_size e) (Nat.not_lt_zero _)
def ledger (h : Heap) (L d : Addr) : List (Addr × Obj) := (List.range h.objs.size).filterMap fun a => if a = L ∨ a = d then none else (h.get? a).map fun o => (a, o)
theorem mem_ledger {h : Heap} {L d a : Addr} {o : Obj} : (a, o) ∈ ledger h L d ↔ a ≠ L ∧ a ≠ d ∧ h.get? a = some o := by
  unfold ledger
  rw [List.mem_filterMap]
  constructor
  · rintro ⟨b, _, e⟩
    split at e
    · cases e
    · rename_i hb
      obtain ⟨o', ho, e'⟩ := Option.map_eq_some_iff.mp e
      cases e'
      exact ⟨fun q => hb (.inl q), fun q => hb (.inr q), ho⟩
  · rintro ⟨n1, n2, ho⟩
    refine ⟨a, List.mem_range.mpr (Heap.lt_size ho), ?_⟩
    rw [if_neg (show ¬ (a = L ∨ a = d) from fun q => q.elim n1 n2), ho] <;> rfl
theorem news_ledger {h : Heap} {L d : Addr} {od : Obj} (hne : d ≠ L) (ho : h.get? d = some od) : News (noObjs h) L h ([] ++ (d, od) :: ledger h L d) := by
  rintro ⟨a, o⟩ hp
  rcases List.mem_cons.mp hp with e | hp
  · cases e
    exact ⟨ho, hne, noObjs_get _ _⟩
  · obtain ⟨n1, n2, e⟩ := mem_ledger.mp hp
    exact ⟨e, n1, noObjs_get _ _⟩
theorem fr_all {h : Heap} {L : Addr} {m : Str → Option Value} (n : h.Ns L m) : Fr (noObjs h) L h m :=
  ⟨n, fun b o e => (by rw [noObjs_get] at e; cases e), Nat.zero_le _⟩
/-- Upd of the head entry (for append_K, setItem_K ..) -/
theorem upd_ledger {h : Heap} {L d : Addr} {o o' : Obj} : Upd d o o' ((d, o) :: ledger h L d) ((d, o') :: ledger h L d) :=
  .head fun ⟨_, _⟩ hp => (mem_ledger.mp hp).2.1

/-- x.name = v over any heap: L is any namespace of the heap (the frame's, say): its map stays, its object is not told; all else but the dict stays -/
theorem set_field {x C dx L : Addr} {ox : Obj} {m : Str → Option Value} {es es' : List DictEntry} {n n' : Nat} {name : Str} {v : Value} {Q : Unit → Shared → Prop}
    (X : K.In s.heap) (I : PySem.W.InstAt s.heap x ox C (some (dictOf es n))) (hd : ox.dict = some dx) (hL : s.heap.Ns L m) (hne : dx ≠ L)
    (hs : findIn K (.ref C) "__setattr__" = some (some (.builtin "object.__setattr__"))) (hp : plainOver K C = true) (ht : takerIn K C name = some none) (hh : hasDictIn K C = true) (hl : (getL name es).isSome = true)
    (e : (putL name (PyData.keyHash w.params name) (.str name (s.toks + 1)) v es, putN name es n) = (es', n')) (hz : es'.length ≤ 1000)
    (h : ∀ h' : Heap, h'.Ns L m → h'.get? dx = some (dictOf es' n') → (∀ b o, b ≠ dx → b ≠ L → s.heap.get? b = some o → h'.get? b = some o) → Q () { s with heap := h', toks := s.toks + 2 }) :
    wpAny (model prog w) A (setAttr (.ref x) name v) Q E s := by
  obtain ⟨e1, e2⟩ := Prod.mk.inj e
  have hdx : s.heap.get? dx = some (dictOf es n) := by
    have := I.dict
    rw [hd] at this
    exact this
  refine set_plain X I hs (osa_dict (s := { s with toks := s.toks + 1 }) (h₀ := noObjs s.heap) (L := L) (m := m) (od := dictOf es n) (od' := dictOf es' n') (es := es') (n := n') (pre := []) (post := ledger s.heap L dx)
    (fr_all hL) (news_ledger hne hdx) X I hd hp ht hh hl (fun _ q => nomatch q) (fun ⟨_, _⟩ q => (mem_ledger.mp q).2.1) (by rw [putName_dict, e1, e2]) rfl hz fun h' F' N' => ?_)
  exact h h' F'.ns (N'.get (List.Mem.head _)) fun b o n1 n2 ho => N'.get (List.Mem.tail _ (mem_ledger.mpr ⟨n2, n1, ho⟩))
end
end Att

namespace L2
open PySem PySem.Spec PyProof.Rows

theorem vals_ints : ∀ {vs : List Value} {ns : List Int}, IntsAre vs ns → Vals (ns.map V.int) vs
  | _, _, .nil => .nil
  | _, _, .cons n t h => .cons ⟨t, rfl⟩ (vals_ints h)

/-- nothing is tracked but the script, known to the object (or it is an object of the module) -/
def Only (H : Hp) : Prop := ∀ b, H b = none ∨ ∃ o xs, H b = some (.frz o (.lst xs))

/-- THE HEAD: the law's promise, at the heap behind the top. F, the promise of the law's def, may use that base is part of the heap (so K.In base, base.Ns mainGlobals mg stand in Mod) -/
theorem law_call {P : Program} {w : World} {K : PySem.W.Frag} {mg mb : Str → Option Value} {CX : CXT} {k : Nat} {fa a : Addr} {fd : FuncData} {x : Str} {sp : Sp} {s₁ : Shared} {vs : List Value} {ns : List Int}
    (KX : K.In s₁.heap) (hns : s₁.heap.Ns mainGlobals mg) (hb : s₁.heap.Ns builtinsNs mb) (hbb : ∀ x : Str, x ≠ "__name__" → mb x = bootBuiltins x) (hlim : s₁.heap.NoLimit) (hg : s₁.gens = #[])
    (ha : s₁.heap.get? a = some { cls := .type "list", data := .seq vs.toArray }) (hi : IntsAre vs ns) (hl : ns.length ≤ sizeLine) (hr : Room k callerA)
    (F : ∀ base : Heap, K.In base → base.Ns mainGlobals mg → FnOk P w K mg base CX k fa fd [x] sp) (hbind : ∀ (s : Shared) (u : Value), BindsTo s fd ⟨[u], []⟩ [(x, u)])
    (hsp : ∀ H : Hp, Only H → SqL K H a (ns.map V.int) → sp [.ref a] H (fun v _ => v = .bl true) fun _ _ _ => False)
    (hCX : ∀ H e s', CX [] H s₁ (fun _ _ _ => False) e s' → False) :
    codeAny (model P w) callerA (.call (.ref fa) ⟨[.ref a], []⟩) (fun r s' => r = .ok (.ret (.bool true)) ∧ OldK s₁.heap s'.heap ∧ s'.os = s₁.os ∧ AllBare s'.gens) s₁ := by
  have rv := vals_ints hi
  have lenV := hi.length
  -- from an abstract heap in which nothing but the script may be tracked
  have core : ∀ H : Hp, Only H → SqL K H a (ns.map V.int) → HOk P w H s₁.heap → (∀ b, H b ≠ none → b = a) → (H a ≠ none → K.lookup a = none) →
      codeAny (model P w) callerA (.call (.ref fa) ⟨[.ref a], []⟩) (fun r s' => r = .ok (.ret (.bool true)) ∧ OldK s₁.heap s'.heap ∧ s'.os = s₁.os ∧ AllBare s'.gens) s₁ := by
    intro H hO hS hok hA hK
    have base_of : ∀ {b : Addr} {o : Obj}, s₁.heap.get? b = some o → H b = none → (hidT s₁.heap H).get? b = some o := fun e n => hidT_get e n
    have noA : ∀ {b : Addr} {o : Obj} {es : Array DictEntry} {ep : Nat}, s₁.heap.get? b = some o → o.data = .dict es ep → H b = none := fun {b o es ep} e d => by
      cases q : H b with
      | none => rfl
      | some u =>
        have e' : b = a := hA b (by rw [q]; simp)
        subst e'
        rw [ha] at e; cases e
        have d' : Data.seq vs.toArray _ = Data.dict es ep := d
        cases d'
    have nsK : ∀ {b : Addr} {m : Str → Option Value}, s₁.heap.Ns b m → (hidT s₁.heap H).Ns b m := fun {b m} ⟨o, es, ep, e, d, r⟩ => ⟨o, es, ep, base_of e (noA e d), d, r⟩
    have hKb : K.In (hidT s₁.heap H) := fun b o e => base_of (KX b o e) (by
      cases q : H b with
      | none => rfl
      | some u =>
        have e' : b = a := hA b (by rw [q]; simp)
        subst e'
        rw [hK (by rw [q]; simp)] at e; cases e)
    have hM : Mod K mg (hidT s₁.heap H) := ⟨hKb, nsK hns, ⟨mb, nsK hb, hbb⟩, let ⟨mc, h1, h2⟩ := hlim; ⟨mc, nsK h1, h2⟩⟩
    have e0 : Env0 P w K mg (hidT s₁.heap H) callerA [] s₁ H := ⟨rfl, hM, fun b o e => of_hidT e, Nat.le_of_eq (hidT_size _ _), trivial, fun b hb => absurd (show b ∈ ([] : List Addr) from hb) (by simp), hok, .of_eq hg⟩
    refine codeAny_mono ((F _ hKb (nsK hns)).run callerA [] s₁ H ⟨[.ref a], []⟩ [.ref a] [.ref a] _ _ hr e0 (hbind s₁ (.ref a)) (.cons rfl .nil) (hsp H hO hS)) fun r s' h => ?_
    cases r with
    | error e => exact (hCX H e s' h).elim
    | ok fl =>
      cases fl with
      | next => exact False.elim h
      | brk => exact False.elim h
      | cont => exact False.elim h
      | ret u =>
        obtain ⟨v, H', os, bare, un, hok', r', q⟩ := h
        have q' : v = .bl true := q
        subst q'
        obtain rfl : u = Value.bool true := r'
        refine ⟨rfl, OldK.of_keep fun b o e => ?_, os, bare⟩
        cases q : H b with
        | none => exact un.keep b o e q (by intro z; exact absurd (show b ∈ ([] : List Addr) from z) (by simp)) (by simp)
        | some u =>
          rcases hO b with z | ⟨ob, xs, z⟩
          · rw [q] at z; cases z
          · have z2 := un.frzs b ob _ z
            obtain ⟨e1, _⟩ := hok b _ z
            obtain ⟨e2, _⟩ := hok' b _ z2
            rw [e] at e1; cases e1
            exact e2
  cases hk : K.lookup a with
  | some o =>
    -- the script is one of the module's own objects
    have e := KX a o hk
    rw [ha] at e
    cases e
    refine core (fun _ => none) (fun _ => .inl rfl) (.inr ⟨_, vs.toArray, _, hk, rfl, rfl, rfl, by rw [List.size_toArray, lenV]; exact hl, by simpa using rv⟩) (fun b u z => by have z' : (none : Option HO) = some u := z; cases z') (fun b z => absurd rfl z) fun z => absurd rfl z
  | none =>
    refine core (fun b => if b = a then some (.frz { cls := .type "list", data := .seq vs.toArray } (.lst (ns.map V.int))) else none) (fun b => ?_) (.inl (.inr ⟨{ cls := .type "list", data := .seq vs.toArray }, if_pos rfl⟩)) (fun b u z => ?_) (fun b z => ?_) fun _ => hk
    · by_cases hb : b = a
      · exact .inr ⟨_, _, if_pos hb⟩
      · exact .inl (if_neg hb)
    · by_cases hb : b = a
      · have z' := (if_pos hb).symm.trans z
        cases z'
        subst hb
        exact ⟨ha, by rw [List.length_map]; exact hl, vs, _, rv, ha⟩
      · have z' := (if_neg hb).symm.trans z
        cases z'
    · by_cases hb : b = a
      · exact hb
      · exact absurd (if_neg hb) z
end L2

namespace L2
open PySem PySem.Spec PyProof.Rows

abbrev KOf {K : PySem.W.Frag} {h : Heap} (_ : K.In h) : PySem.W.Frag := K

/-- the goal that k_head leaves (case hc), from the law's promise. F gives the function object fd (K's own) once, then the promise over every base -/
theorem walk_of {l : PySem.W.OpenLaw} {n k : Nat} {q : Program} {loose : List Str} {XP : (Str → Option Value) → Heap → Prop} {YP : World → Heap → Prop} {d : DefRec} {K : Params → PySem.W.Frag} {CX : World → CXT} {sp : World → Sp} {x : Str}
    (hn : l.most = some n) (hn2 : n ≤ sizeLine) (hdf : d.params.defaults = []) (hr : Room k callerA)
    (hY : ∀ (w : World) (h : Heap), YP w h → (K w.params).In h)
    (F : ∀ (w : World) (mg : Str → Option Value) (fa : Addr) (h : Heap), (K w.params).In h → h.Ns mainGlobals mg → mg d.name = some (.ref fa) →
      ∃ fd : FuncData, (∀ (s : Shared) (u : Value), BindsTo s fd ⟨[u], []⟩ [(x, u)]) ∧
        ∀ base : Heap, (K w.params).In base → base.Ns mainGlobals mg → FnOk l.prog w (K w.params) mg base (CX w) k fa fd [x] (sp w))
    (hsp : ∀ (w : World) (H : Hp) (a : Addr) (ns : List Int), ns.length ≤ n → Only H → SqL (K w.params) H a (ns.map V.int) → sp w [.ref a] H (fun v _ => v = .bl true) fun _ _ _ => False)
    (hCX : ∀ (w : World) (H : Hp) (s : Shared) (e : Value) (s' : Shared), CX w [] H s (fun _ _ _ => False) e s' → False) :
    PySem.W.WalkO q loose XP YP l.row.toRowW d [] (fun f vs => PySem.call f vs) := by
  refine Att.attach_call hn hdf fun w s₀ s₁ mg mb fa o pm cd doc a vs ns G Y ho hd hcd hmg hobj hints hlen hg => ?_
  have KX := hY w _ Y
  obtain ⟨fd, hb, hF⟩ := F w mg fa _ KX G.T.g hmg
  exact law_call KX G.T.g G.T.b G.T.builtins G.T.nolimit hg hobj hints (Nat.le_trans hlen hn2) hr hF hb (fun H hO hS => hsp w H a ns hlen hO hS) fun H e s' => hCX w H s₁ e s'
/-- the same where the promise hangs on the written part alone: (sp := My.sp_law), no hole under a binder -/
theorem walk_ofK {l : PySem.W.OpenLaw} {n k : Nat} {q : Program} {loose : List Str} {XP : (Str → Option Value) → Heap → Prop} {YP : World → Heap → Prop} {d : DefRec} {K : Params → PySem.W.Frag} {CX : CXT} {sp : PySem.W.Frag → Sp} {x : Str}
    (hn : l.most = some n) (hn2 : n ≤ sizeLine) (hdf : d.params.defaults = []) (hr : Room k callerA)
    (hY : ∀ (w : World) (h : Heap), YP w h → (K w.params).In h)
    (F : ∀ (w : World) (mg : Str → Option Value) (fa : Addr) (h : Heap), (K w.params).In h → h.Ns mainGlobals mg → mg d.name = some (.ref fa) →
      ∃ fd : FuncData, (∀ (s : Shared) (u : Value), BindsTo s fd ⟨[u], []⟩ [(x, u)]) ∧
        ∀ base : Heap, (K w.params).In base → base.Ns mainGlobals mg → FnOk l.prog w (K w.params) mg base CX k fa fd [x] (sp (K w.params)))
    (hsp : ∀ (K : PySem.W.Frag) (H : Hp) (a : Addr) (ns : List Int), ns.length ≤ n → Only H → SqL K H a (ns.map V.int) → sp K [.ref a] H (fun v _ => v = .bl true) fun _ _ _ => False)
    (hCX : ∀ (H : Hp) (s : Shared) (e : Value) (s' : Shared), CX [] H s (fun _ _ _ => False) e s' → False) :
    PySem.W.WalkO q loose XP YP l.row.toRowW d [] (fun f vs => PySem.call f vs) :=
  walk_of (K := K) (CX := fun _ => CX) (sp := fun w => sp (K w.params)) hn hn2 hdf hr hY F (fun w H a ns h1 h2 h3 => hsp (K w.params) H a ns h1 h2 h3) fun _ H s e s' => hCX H s e s'
end L2

/- THE LAST THEOREM (shape; LID, My.* are yours):
   My.Adr: a structure of the addresses that your layer names (classes, functions); My.Txt K t: a structure (Prop) of the equations over K;
   My.txt_mk : {K} {implicit addresses ..} (e1 : nsIn K mainGlobals "law" = some (some (.ref f))) (e2 : K.lookup f = some ⟨oc, od, .func (fnOf "law" "law" params body scope dV kV doc pm an cdv ct), sl⟩) (e3 : codeIn K cdv "law" = true) .. : ∃ t, My.Txt K t

set_option maxRecDepth 100000 in
set_option maxHeartbeats 0 in
theorem PySem.Challenge.cw_LID_holds : PySem.Challenge.rw_LID.Holds := by
  w_on; o_law; k_head; (case hw => w_witness2)
  k_fill
  refine L2.walk_of (l := PySem.Challenge.rw_LID) (n := 63) (k := 40) (x := "script") (CX := fun w => ..) (sp := fun _ => My.sp_law) rfl (by decide) rfl ⟨rfl, by decide, by decide⟩ (fun w h Y => PySem.W.kIn_of Y) ?F ?S ?C
  case F =>
    intro w mg fa h KX G hmg
    have T : ∃ t, My.Txt (L2.KOf KX) t := by
      dsimp only [L2.KOf]                          -- K must stand as «<heap const> w.params» for k_is
      refine' My.txt_mk ?e1 ?e2 ?e3 ..
      (case e1 => PySem.W.k_is)                    -- in the order: a name -> its address -> its object -> its parts
      (case e2 => PySem.W.k_is)
      ..
    obtain ⟨t, T⟩ := T
    have e0 := hmg.symm.trans (PySem.W.mg_of KX G T.law)
    cases e0                                       -- fa is the law's own address
    exact ⟨_, fun s u => .of_eq rfl, fun base kb nb => My.law_fn T kb nb⟩     -- if «.of_eq rfl» comes too early: refine' ⟨_, ?b, fun base kb nb => My.law_fn T kb nb⟩; exact fun s u => .of_eq rfl
  case S => exact fun w H a ns hl hO hS => ..
  case C => exact ..
(the tactic k_is has no namespace: write k_is) -/

/-! SHORT WORDS over the layer: a def of the text, its body, what a loop and a test want. -/
namespace L2
open PySem PySem.Spec PyProof.Rows

/-! ### the text by places -/
/-- the j-th statement of a class's body -/
def inClass (s : Stmt) (j : Nat) : Stmt := match s with
  | .ClassDef _ _ _ body _ _ _ _ _ _ _ => body.getD j (.Pass ⟨0, 0, 0, 0⟩)
  | _ => .Pass ⟨0, 0, 0, 0⟩
def defArgs (s : Stmt) : Arguments := match s with
  | .FunctionDef _ a _ _ _ _ _ _ _ _ => a
  | _ => { posonlyargs := [], args := [], vararg := none, kwonlyargs := [], kw_defaults := [], kwarg := none, defaults := [] }
def defBody (s : Stmt) : List Stmt := match s with
  | .FunctionDef _ _ b _ _ _ _ _ _ _ => b
  | _ => []
def defScope (s : Stmt) : Scope := match s with
  | .FunctionDef _ _ _ _ _ _ sc _ _ _ => sc
  | _ => { kind := .function, names := [], isGenerator := false, isCoroutine := false }

/-! ### no exception leaves a def -/
abbrev CX0 : CXT := fun _ _ _ _ _ _ => False
abbrev E0 : XK := fun _ _ _ => False
theorem pass0 {X : Cx} : Passes CX0 X E0 := fun _ _ _ _ _ _ _ h => h.elim

/-! ### a def (or method) of the text as it stands behind the top -/
structure Fun (K : PySem.W.Frag) (x qual : Str) (st : Stmt) (f : Addr) (fd : FuncData) : Prop where
  ex : ∃ (oc : Value) (od : Option Addr) (kV doc pm : Value) (an : Option Addr) (cdv ct : Value) (osl : Array (Option Value)),
    fd = PySem.W.fnOf x qual (defArgs st) (defBody st) (defScope st) .none kV doc pm an cdv ct ∧ K.lookup f = some ⟨oc, od, .func fd, osl⟩ ∧ PySem.W.codeIn K cdv qual = true
  kp : PySem.W.keepIn K (.ref f) = true
section
variable {P : Program} {w : World} {K : PySem.W.Frag} {mg : Str → Option Value} {base : Heap}
/-- THE RULE for a def: its body as a term of rules, and the reading of that term -/
theorem Fun.ok {x qual : Str} {st : Stmt} {f : Addr} {fd : FuncData} {N ps : List Str} {k : Nat} {sp : Sp} (F : Fun K x qual st f fd) (S : FnScope N ps (defScope st)) (len : ∀ vs H Q E, sp vs H Q E → vs.length = ps.length)
    (hbody : ∀ (cdv : Value) (A : Around) (outer : List Env) (s : Shared) (H : Hp) (vs : List V) (Q : VK) (E : XK), Room k (A.deeper (envOfC qual (defScope st) s.heap.objs.size f cdv)) → sp vs H Q E →
      ∃ t, PSs (cxOf CX0 P w K mg base N qual (defScope st) f cdv A outer s H E).nox (defBody st) t ∧ t { nx := fun _ H' => Q .non H', rt := Q } (start N vs) H) : FnOk P w K mg base CX0 (k + 1) f fd ps sp := by
  obtain ⟨oc, od, kV, doc, pm, an, cdv, ct, osl, rfl, lk, hcd⟩ := F.ex
  refine fn_of lk hcd S len fun A outer s H vs Q E hr hsp => ?_
  obtain ⟨t, h, q⟩ := hbody cdv A outer s H vs Q E hr hsp
  exact ⟨t, h.nox, q⟩
/-- how its arguments bind (no defaults): h is «fun _ _ _ _ _ _ us hl => match us, hl with | [_, _], _ => rfl», one _ a parameter -/
theorem Fun.binds {x qual : Str} {st : Stmt} {f : Addr} {fd : FuncData} {ps : List Str} (F : Fun K x qual st f fd)
    (h : ∀ (kV doc pm : Value) (an : Option Addr) (cdv ct : Value) (us : List Value), us.length = ps.length → bindArgs (PySem.W.fnOf x qual (defArgs st) (defBody st) (defScope st) .none kV doc pm an cdv ct) ⟨us, []⟩ = pure (ps.zip us)) : Binds K fd ps [] := by
  obtain ⟨oc, od, kV, doc, pm, an, cdv, ct, osl, rfl, lk, hcd⟩ := F.ex
  exact .all (h kV doc pm an cdv ct)
theorem fun_mk {x qual : Str} {st : Stmt} {f : Addr} {oc : Value} {od an : Option Addr} {osl : Array (Option Value)} {kV doc pm cdv ct : Value} (l : K.lookup f = some ⟨oc, od, .func (PySem.W.fnOf x qual (defArgs st) (defBody st) (defScope st) .none kV doc pm an cdv ct), osl⟩)
    (c : PySem.W.codeIn K cdv qual = true) (k : PySem.W.keepIn K (.ref f) = true) : Fun K x qual st f (PySem.W.fnOf x qual (defArgs st) (defBody st) (defScope st) .none kV doc pm an cdv ct) := ⟨⟨oc, od, kV, doc, pm, an, cdv, ct, osl, rfl, l, c⟩, k⟩
end
theorem hu_of {A : Around} {k : Nat} (hr : Room k A) : A.units + 1 < cLine := Nat.lt_of_le_of_lt (Nat.add_le_add_left (by decide : 1 ≤ 64) _) hr.units
theorem small1000 {n : Nat} (h : n ≤ 1000) : n < sizeLine := Nat.lt_of_le_of_lt h (by decide)

/-! ### expressions in short: the name that stands in the i-th slot -/
section
variable {X : Cx}
theorem pv (i : Nat) {x : Str} {pos : Pos} (hN : X.N[i]? = some x := by rfl) (hv : Vis X.env.scope x := by first | exact Or.inl rfl | exact Or.inr (Or.inl rfl) | exact Or.inr (Or.inr rfl)) (hd : (x == ("__debug__" : Str)) = false := by decide)
    (hcd : (x == ("__classdict__" : Str)) = false := by decide) : PE X (.Name x pos) (tVar i) := pe_var hN hv hd hcd
end

/-! ### tests -/
theorem iteF {A B : Prop} (h : B) : if false = true then A else B := by
  rw [if_neg Bool.false_ne_true]
  exact h
theorem iteT {A B : Prop} (h : A) : if true = true then A else B := by
  rw [if_pos rfl]
  exact h
theorem ite2 {c A B : Prop} [Decidable c] (h1 : c → A) (h2 : ¬ c → B) : if c then A else B := by
  by_cases h : c
  · rw [if_pos h]
    exact h1 h
  · rw [if_neg h]
    exact h2 h
theorem iteNS {c A B : Prop} [Decidable c] (hc : c) (h : B) : if (!decide c) = true then A else B := by
  rw [decide_eq_true hc]
  exact iteF h

/-! ### heaps -/
/-- all that was tracked is as it was -/
def Same (H H' : Hp) : Prop := ∀ b o, H b = some o → H' b = some o
theorem Same.refl (H : Hp) : Same H H := fun _ _ h => h
theorem Same.trans {H H1 H2 : Hp} (a : Same H H1) (b : Same H1 H2) : Same H H2 := fun c o h => b c o (a c o h)
theorem Same.free {H H' : Hp} (e : Same H H') {l : Addr} (h : H' l = Option.none) : H l = Option.none := by
  cases q : H l with
  | none => rfl
  | some o =>
    rw [e l o q] at h
    cases h
theorem Same.seq {K : PySem.W.Frag} {H H' : Hp} {a : Addr} {xs : List V} (e : Same H H') (h : SqL K H a xs) : SqL K H' a xs := by
  rcases h with (h | ⟨o, h⟩) | h
  · exact .inl (.inl (e _ _ h))
  · exact .inl (.inr ⟨o, e _ _ h⟩)
  · exact .inr h

end L2

set_option Elab.async false
set_option linter.all false
set_option maxRecDepth 100000
set_option maxHeartbeats 4000000
namespace L2
open PySem PySem.Spec PyProof.Rows

/-! ### the closure of a comprehension's block -/
def clOf (env : Env) : List (Str × NameKind) → List (Str × Addr) → List (Str × Addr)
  | [], cs => cs
  | (n, k) :: r, cs => clOf env r (if k == .free then (n, (env.cells.lookup n).getD 0) :: cs else cs)
theorem closure_eq {scope : Scope} {env : Env} (h : ∀ y ∈ scope.names, y.2 = .free → ∃ c, env.cells.lookup y.1 = some c) : closureFor scope env = pure (clOf env scope.names []) := by
  have key : ∀ (l : List (Str × NameKind)) (cs : List (Str × Addr)), (∀ y ∈ l, y.2 = .free → ∃ c, env.cells.lookup y.1 = some c) →
      (forIn l cs fun (x : Str × NameKind) (r : List (Str × Addr)) => (if (x.2 == NameKind.free) = true then (do let c ← cellOf env x.1; pure (ForInStep.yield ((x.1, c) :: r))) else pure (ForInStep.yield r) : Sem (ForInStep (List (Str × Addr))))) = pure (clOf env l cs) := by
    intro l
    induction l with
    | nil => intro cs _; rfl
    | cons y l ih =>
      intro cs hl
      obtain ⟨n, k⟩ := y
      rw [List.forIn_cons]
      by_cases hk : k = .free
      · subst hk
        obtain ⟨c, hc⟩ := hl (n, .free) List.mem_cons_self rfl
        have hc : env.cells.lookup n = some c := hc
        simp only [beq_self_eq_true, if_true, cellOf, hc, pure_bind, clOf, Option.getD_some]
        exact ih _ fun z hz => hl z (List.mem_cons_of_mem _ hz)
      · have hb : (k == NameKind.free) = false := by simpa using hk
        simp only [hb, Bool.false_eq_true, if_false, pure_bind, clOf]
        exact ih _ fun z hz => hl z (List.mem_cons_of_mem _ hz)
  have e := key scope.names [] h
  unfold closureFor
  exact (congrArg (· >>= pure) e).trans (pure_bind _ _)
theorem clOf_look {env : Env} {x : Str} {c : Addr} : ∀ (l : List (Str × NameKind)) (cs : List (Str × Addr)), (∀ y ∈ l, y.2 = .free → ∃ c, env.cells.lookup y.1 = some c) → (∀ c, cs.lookup x = some c → env.cells.lookup x = some c) →
    (clOf env l cs).lookup x = some c → env.cells.lookup x = some c
  | [], cs, _, hc, h => hc c h
  | (n, k) :: r, cs, hl, hc, h => by
    refine clOf_look r _ (fun z hz => hl z (List.mem_cons_of_mem _ hz)) (fun d hd => ?_) h
    by_cases hk : k = .free
    · subst hk
      obtain ⟨e, he⟩ := hl (n, .free) List.mem_cons_self rfl
      have he : env.cells.lookup n = some e := he
      simp only [beq_self_eq_true, if_true, he, Option.getD_some, List.lookup_cons] at hd
      cases hx : x == n with
      | true =>
        rw [hx] at hd
        cases hd
        rw [eq_of_beq hx]
        exact he
      | false =>
        rw [hx] at hd
        exact hc d hd
    · have hb : (k == NameKind.free) = false := by simpa using hk
      simp only [hb, Bool.false_eq_true, if_false] at hd
      exact hc d hd
theorem clOf_has {env : Env} {x : Str} : ∀ (l : List (Str × NameKind)) (cs : List (Str × Addr)), ((∃ c, cs.lookup x = some c) ∨ (x, NameKind.free) ∈ l) → ∃ c, (clOf env l cs).lookup x = some c
  | [], cs, h => by
    rcases h with h | h
    · exact h
    · cases h
  | (n, k) :: r, cs, h => by
    refine clOf_has r _ ?_
    rcases h with ⟨c, h⟩ | h
    · refine .inl ?_
      split
      · rw [List.lookup_cons]
        split
        · exact ⟨_, rfl⟩
        · exact ⟨c, h⟩
      · exact ⟨c, h⟩
    · rcases List.mem_cons.mp h with h | h
      · cases h
        refine .inl ?_
        simp
      · exact .inr h
end L2

set_option Elab.async false
set_option linter.all false
set_option maxRecDepth 100000
set_option maxHeartbeats 4000000
namespace L2
open PySem PySem.Spec PyProof.Rows

/-! ### a comprehension's block -/
/-- the names around, those that a target hides under a name that nothing bears -/
def hideN : List Bool → Nat → List Str → List Str
  | b :: m, j, x :: N => (if b then ⟨#[46, j]⟩ else x) :: hideN m (j + 1) N
  | _, _, N => N
def maskS : List Bool → St → St
  | b :: m, v :: σ => (if b then none else v) :: maskS m σ
  | _, σ => σ
theorem maskS_len : ∀ (m : List Bool) (σ : St), (maskS m σ).length = σ.length
  | [], σ => by unfold maskS; rfl
  | _ :: _, [] => by unfold maskS; rfl
  | b :: m, v :: σ => by unfold maskS; rw [List.length_cons, List.length_cons, maskS_len m σ]
theorem hideN_len : ∀ (m : List Bool) (j : Nat) (N : List Str), (hideN m j N).length = N.length
  | [], _, N => by unfold hideN; rfl
  | _ :: _, _, [] => by unfold hideN; rfl
  | b :: m, j, x :: N => by unfold hideN; rw [List.length_cons, List.length_cons, hideN_len m (j + 1) N]
theorem mask_get : ∀ (m : List Bool) (j : Nat) (N : List Str) (σ : St) (i : Nat) (v : V), (maskS m σ)[i]? = some (some v) → σ[i]? = some (some v) ∧ (hideN m j N)[i]? = N[i]?
  | [], _, N, σ, i, v, h => by unfold maskS at h; unfold hideN; exact ⟨h, rfl⟩
  | _ :: _, _, N, [], i, v, h => by unfold maskS at h; simp at h
  | b :: m, j, [], w :: σ, i, v, h => by
    unfold maskS at h
    cases i with
    | zero =>
      cases b with
      | true => simp at h
      | false => simp at h; subst h; exact ⟨by simp, by unfold hideN; rfl⟩
    | succ i =>
      have q := (mask_get m (j + 1) [] σ i v (by simpa using h)).1
      exact ⟨by simpa using q, by unfold hideN; rfl⟩
  | b :: m, j, x :: N, w :: σ, 0, v, h => by
    unfold maskS at h
    cases b with
    | true => simp at h
    | false => simp at h; subst h; exact ⟨by simp, by unfold hideN; simp⟩
  | b :: m, j, x :: N, w :: σ, i + 1, v, h => by
    unfold maskS at h
    have q := mask_get m (j + 1) N σ i v (by simpa using h)
    unfold hideN
    exact ⟨by simpa using q.1, by simpa using q.2⟩

/-- the block's scope as it is entered -/
def relabelS (scope sc : Scope) : Scope :=
  { scope with names := scope.names.map fun (n, k) => if (k == .free && sc.kind == .function && sc.names.lookup n == some .cell) then (n, .cell) else (n, k) }
theorem relabel_eq (scope : Scope) (env : Env) : relabel scope env = relabelS scope env.scope := rfl
theorem relabelS_look (sc : Scope) (x : Str) : ∀ (l : List (Str × NameKind)),
    (l.map fun (n, k) => if (k == NameKind.free && sc.kind == .function && sc.names.lookup n == some .cell) then (n, NameKind.cell) else (n, k)).lookup x =
      (l.lookup x).map fun k => if (k == NameKind.free && sc.kind == .function && sc.names.lookup x == some .cell) then NameKind.cell else k
  | [] => rfl
  | (n, k) :: r => by
    rw [List.map_cons]
    have e : (if (k == NameKind.free && sc.kind == .function && sc.names.lookup n == some .cell) = true then (n, NameKind.cell) else (n, k)) =
        (n, if (k == NameKind.free && sc.kind == .function && sc.names.lookup n == some .cell) = true then NameKind.cell else k) := by split <;> rfl
    show List.lookup x ((if (k == NameKind.free && sc.kind == .function && sc.names.lookup n == some .cell) = true then (n, NameKind.cell) else (n, k)) :: _) = _
    rw [e, List.lookup_cons, List.lookup_cons]
    cases hx : x == n with
    | true => rw [eq_of_beq hx]; simp
    | false => exact relabelS_look sc x r

/-- what is asked of a comprehension's scope -/
structure CompSt (N : List Str) (sc scope : Scope) (tgs : List Str) (mask : List Bool) : Prop where
  kind : scope.kind = .function
  nocell : ∀ y ∈ scope.names, y.2 ≠ .cell
  names : ∀ y ∈ scope.names, y.2 = .local → scope.names.lookup y.1 = some .local
  free : ∀ y ∈ scope.names, y.2 = .free → sc.names.lookup y.1 = some .cell ∨ sc.names.lookup y.1 = some .free
  loc : ∀ y ∈ scope.names, y.2 = .local → y.1 ∈ tgs ∨ y.1 = (".0" : Str)
  nd : (tgs ++ hideN mask 0 N).Nodup
  no0 : (".0" : Str) ∉ tgs ++ hideN mask 0 N

/-- the block's context; s, H: the state ahead of its frame -/
def cxComp (X : Cx) (scope : Scope) (tgs : List Str) (mask : List Bool) (s : Shared) (H : Hp) (ex : List Addr) : Cx :=
  { X with N := tgs ++ hideN mask 0 X.N, s₀ := s, H₀ := H, env := compEnvC scope (clOf X.env scope.names []) s.heap.objs.size X.env, outer := X.stack, stack := X.stack, ex := ex, fn := fun _ => false, pn := [], xe := fun _ _ => False }
def entS (k : Nat) (mask : List Bool) (σ : St) : St := List.replicate k none ++ maskS mask σ

section
variable {X : Cx} {pins : List (Addr × Obj)} {σ : St} {H : Hp} {s : Shared} {scope : Scope} {tgs : List Str} {mask : List Bool} {ex : List Addr}
theorem CompSt.cells (C : CompSt X.N X.env.scope scope tgs mask) (ok : X.Ok) : ∀ y ∈ scope.names, y.2 = .free → ∃ c, X.env.cells.lookup y.1 = some c := fun y hy hf =>
  ok.has y.1 (C.free y hy hf)
theorem CompSt.kindCF (C : CompSt X.N X.env.scope scope tgs mask) {x : Str} (h : (relabel scope X.env).names.lookup x = some .cell ∨ (relabel scope X.env).names.lookup x = some .free) : (x, NameKind.free) ∈ scope.names := by
  have e := relabelS_look X.env.scope x scope.names
  have e' : (relabel scope X.env).names.lookup x = (scope.names.lookup x).map fun k => if (k == NameKind.free && X.env.scope.kind == .function && X.env.scope.names.lookup x == some .cell) then NameKind.cell else k := e
  rw [e'] at h
  cases q : scope.names.lookup x with
  | none => rw [q] at h; simp at h
  | some k =>
    have hm := PySem.mem_of_lookup q
    have nc := C.nocell _ hm
    cases k with
    | free => exact hm
    | cell => exact absurd rfl nc
    | «local» => rw [q] at h; simp at h
    | _ => rw [q] at h; simp at h
theorem comp_start (I : Inv X pins σ H s) (C : CompSt X.N X.env.scope scope tgs mask) (hex : ∀ b ∈ ex, FpOk X pins H b ∧ b < s.heap.objs.size) {h' : Heap} {t' : Nat}
    (hn : h'.Ns s.heap.objs.size (fun _ => none)) (hs : Heap.SameBut s.heap.objs.size (s.heap.push { cls := .type "dict", data := .dict #[] }) h') :
    Inv (cxComp X scope tgs mask s H ex) [] (entS tgs.length mask σ) H { s with heap := h', toks := t' } := by
  have kept : ∀ b u, s.heap.get? b = some u → h'.get? b = some u := fun b u e => hs.extBut b u (Nat.ne_of_lt (Heap.lt_size e)) (Heap.get?_push_of_some _ e)
  have look : ∀ x c, (clOf X.env scope.names []).lookup x = some c → X.env.cells.lookup x = some c := fun x c e => clOf_look scope.names [] (C.cells I.ok) (fun c z => by simp at z) e
  have nofs : ∀ b ∈ ex, b ∉ frs X.stack := fun b hb z => by
    obtain ⟨⟨_, f1, f2, _⟩, _⟩ := hex b hb
    rcases List.mem_cons.mp (I.stkSub b z) with e | e
    · exact f1 e
    · exact f2 e
  refine ⟨⟨I.ok.mod, C.kind, I.ok.glob, I.ok.blt, Nat.le_refl _, fun x y c h1 h2 => I.ok.inj x y c (look x c h1) (look y c h2), fun x hx => ?_, fun x c hf _ => absurd (show false = true from hf) Bool.false_ne_true, I.ok.hd, I.ok.frames, .inl rfl, fun b hb => ?_, I.bs, Nat.le_trans I.ok.bsz I.sz, fun b o e hb => ?_, nofs, I.stack, I.stkFree⟩,
    rfl, I.bare, Un.kept kept, ⟨_, hn, fun i x v h1 h2 h3 => ?_⟩, fun x c h => ?_, I.hok.fresh (Nat.le_refl _), fun x c h => I.freeC x c (look x c h), fun p hp => absurd (show p ∈ ([] : List (Addr × Obj)) from hp) (by simp), I.hok.kept kept, ?_⟩
  · exact clOf_has scope.names [] (.inr (C.kindCF hx))
  · obtain ⟨⟨_, _, _, _, f4, _⟩, lt⟩ := hex b hb
    exact ⟨Nat.ne_of_lt lt, fun x c e => f4 x c (look x c e)⟩
  · obtain ⟨⟨_, _, _, f3, _⟩, _⟩ := hex b hb
    rcases f3 with z | z
    · exact I.ok.noex b o e z
    · exact absurd (Nat.lt_of_lt_of_le (Heap.lt_size (I.ok.bs b o e).1) z) (Nat.lt_irrefl _)
  · -- a captured name
    have hi : tgs.length ≤ i := by
      rcases Nat.lt_or_ge i tgs.length with z | z
      · unfold entS at h2
        rw [List.getElem?_append_left (by simpa using z), List.getElem?_replicate] at h2
        split at h2 <;> cases h2
      · exact z
    have h1' : (hideN mask 0 X.N)[i - tgs.length]? = some x := by
      have : (tgs ++ hideN mask 0 X.N)[i]? = some x := h1
      rw [List.getElem?_append_right hi] at this
      exact this
    have h2' : (maskS mask σ)[i - tgs.length]? = some (some v) := by
      unfold entS at h2
      rw [List.getElem?_append_right (by simpa using hi)] at h2
      simpa using h2
    obtain ⟨g1, g2⟩ := mask_get mask 0 X.N σ _ v h2'
    rw [g2] at h1'
    have hxm : x ∈ tgs ++ hideN mask 0 X.N := List.mem_of_getElem? (show (tgs ++ hideN mask 0 X.N)[i]? = some x from h1)
    have hxt : x ∉ tgs := fun z => by
      have nd := C.nd
      rw [List.nodup_append] at nd
      exact nd.2.2 x z x (List.mem_of_getElem? (by rw [g2]; exact h1')) rfl
    have hfree : (x, NameKind.free) ∈ scope.names := by
      rcases h3 with z | z | z
      · exfalso
        have e : (relabel scope X.env).names.lookup x = some .local := z
        have e2 := relabelS_look X.env.scope x scope.names
        have e3 : (relabel scope X.env).names.lookup x = (scope.names.lookup x).map fun k => if (k == NameKind.free && X.env.scope.kind == .function && X.env.scope.names.lookup x == some .cell) then NameKind.cell else k := e2
        rw [e3] at e
        cases q : scope.names.lookup x with
        | none => rw [q] at e; cases e
        | some k =>
          rw [q] at e
          have hm := PySem.mem_of_lookup q
          have kl : k = .local := by
            cases k with
            | «local» => rfl
            | free => simp at e; split at e <;> cases e
            | _ => simp at e
          subst kl
          rcases C.loc _ hm rfl with z | z
          · exact hxt z
          · exact C.no0 (z ▸ hxm)
      · exact C.kindCF (.inl z)
      · exact C.kindCF (.inr z)
    obtain ⟨m, hnm, hl⟩ := I.loc
    have vis : Vis X.env.scope x := .inr (C.free _ hfree rfl)
    obtain ⟨u, r, l⟩ := hl _ x v h1' g1 vis
    refine ⟨u, r, ?_⟩
    rcases l with ⟨k, _⟩ | ⟨_, c, hc, hcell⟩
    · exfalso
      have k' : X.env.scope.names.lookup x = some .local := k
      rcases C.free _ hfree rfl with z | z
      · have z' : X.env.scope.names.lookup x = some .cell := z
        rw [k'] at z'; cases z'
      · have z' : X.env.scope.names.lookup x = some .free := z
        rw [k'] at z'; cases z'
    · obtain ⟨c', hc'⟩ := clOf_has (env := X.env) scope.names [] (.inr hfree)
      have : c' = c := by
        have := look x c' hc'
        rw [hc] at this; exact (Option.some.inj this).symm
      subst this
      refine .inr ⟨?_, c', hc', ?_⟩
      · rcases h3 with z | z | z
        · exfalso
          have e : (relabel scope X.env).names.lookup x = some .local := z
          have e2 := relabelS_look X.env.scope x scope.names
          have e3 : (relabel scope X.env).names.lookup x = (scope.names.lookup x).map fun k => if (k == NameKind.free && X.env.scope.kind == .function && X.env.scope.names.lookup x == some .cell) then NameKind.cell else k := e2
          rw [e3] at e
          cases q : scope.names.lookup x with
          | none => rw [q] at e; cases e
          | some k =>
            rw [q] at e
            have hm := PySem.mem_of_lookup q
            have kl : k = .local := by
              cases k with
              | «local» => rfl
              | free => simp at e; split at e <;> cases e
              | _ => simp at e
            subst kl
            rcases C.loc _ hm rfl with z | z
            · exact hxt z
            · exact C.no0 (z ▸ hxm)
        · exact .inl z
        · exact .inr z
      · obtain ⟨o, ho, hd⟩ := hcell
        exact ⟨o, kept _ _ ho, hd⟩
  · obtain ⟨v, o, ho, hd⟩ := I.cell x c (look x c h)
    exact ⟨v, o, kept _ _ ho, hd⟩
  · show (entS tgs.length mask σ).length = (tgs ++ hideN mask 0 X.N).length
    unfold entS
    rw [List.length_append, List.length_append, List.length_replicate, maskS_len, hideN_len, I.len]
end
end L2

set_option Elab.async false
set_option linter.all false
set_option maxRecDepth 100000
set_option maxHeartbeats 4000000
namespace L2
open PySem PySem.Spec PyProof.Rows

section
variable {X : Cx} {pins : List (Addr × Obj)} {σ σ' : St} {H H' : Hp} {s s' : Shared} {scope : Scope} {tgs : List Str} {mask : List Bool} {ex : List Addr} {D : Addr} {acc : List V} {its : List Value}
/-- behind the block: the list stands at D -/
theorem comp_leave (I : Inv X pins σ H s) (hex : ∀ b ∈ ex, FpOk X pins H b ∧ b < s.heap.objs.size) (hD : D ∈ ex) (J : Inv (cxComp X scope tgs mask s H ex) [] σ' H' s') (hD' : H' D = none) (hv : Vals acc its) (hz : acc.length ≤ sizeLine)
    (hl : s'.heap.PlainList D its.toArray) {h'' : Heap} (hs : Heap.SameBut s.heap.objs.size s'.heap h'') : Inv X pins σ (upd H' D (.lst acc)) { s' with heap := h'' } := by
  have un : Un (frs X.stack) ex H H' s.heap s'.heap := J.base
  have neC : ∀ b o, s.heap.get? b = some o → b ≠ s.heap.objs.size := fun b o e => Nat.ne_of_lt (Heap.lt_size e)
  have fD := hex D hD
  have lC : H' s.heap.objs.size = none := J.free
  have DC : D ≠ s.heap.objs.size := Nat.ne_of_lt fD.2
  have go : ∀ b u, b ≠ s.heap.objs.size → s'.heap.get? b = some u → h''.get? b = some u := fun b u nb e => hs.extBut b u nb e
  refine I.call' (s' := { s' with heap := h'' }) (ch := ex) J.os ⟨fun b o e n hb hx => ?_, fun b o e n hb hx => ?_, fun b o e n hx => ?_, fun b o e hx => ?_, fun b xs e => ?_, fun b o u e => ?_, fun b ps e => ?_⟩ ?_ J.bare fun b hb => ?_
  · exact go b o (neC b o e) (un.keep b o e n hb hx)
  · obtain ⟨sl, q⟩ := un.slot b o e n hb hx
    exact ⟨sl, go b _ (neC b o e) q⟩
  · have q := un.free b o e n hx
    rw [upd_ne (fun (z : b = D) => hx (by rw [z]; exact hD))]
    exact q
  · obtain ⟨o', q⟩ := un.there b o e hx
    exact ⟨o', go b o' (neC b o e) q⟩
  · rw [upd_ne (ne_of_none (un.tups b xs e) hD')]
    exact un.tups b xs e
  · rw [upd_ne (ne_of_none (un.frzs b o u e) hD')]
    exact un.frzs b o u e
  · obtain ⟨more, q⟩ := un.tbls b ps e
    exact ⟨more, by rw [upd_ne (ne_of_none q hD')]; exact q⟩
  · intro b u e
    by_cases hb : b = D
    · subst hb
      rw [upd_same] at e
      cases e
      obtain ⟨n, q⟩ := hl
      exact ⟨hz, its, n, hv, go _ _ DC q⟩
    · rw [upd_ne hb] at e
      refine (J.hok b u e).stay (fun c v hc q => go c v ?_ q) (fun c q => ?_) fun c xs q => ?_
      · rintro rfl
        rcases hc with z | z
        · subst z; rw [lC] at e; cases e
        · rw [lC] at z; cases z
      · rw [upd_ne (ne_of_none q hD')]; exact q
      · rw [upd_ne (ne_of_none q hD')]; exact q
  · obtain ⟨⟨f0, f1, f2, f3, f4, f5⟩, _⟩ := hex b hb
    exact ⟨f3, f1, f4, f5⟩
end

/-- the tests of a comprehension -/
def PIf (X : Cx) (ifs : List Expr) (t : TT) : Prop := ∀ (pins : List (Addr × Obj)) (s : Shared) (σ : St) (H : Hp) (Q : Bool → Hp → Prop), Inv X pins σ H s → t σ H Q →
  wpAny (model X.prog X.w) X.A (forIn ifs true fun c r => if r = true then do let ok ← isTrue c X.env (eval c X.env); pure (ForInStep.yield ok) else pure (ForInStep.yield r)) (TP X pins σ Q) X.xe s
theorem pif_nil {X : Cx} : PIf X [] (fun _ H Q => Q true H) := fun pins s σ H Q I h => by
  rw [List.forIn_nil]
  exact wpAny_pure ⟨H, I, h⟩
theorem pif_one {X : Cx} {c : Expr} {t : TT} (hc : PT X c t) : PIf X [c] t := fun pins s σ H Q I h => by
  rw [List.forIn_cons]
  simp only [if_true]
  refine wpAny_bind (wpAny_bind (thn (hc pins s σ H Q I h) fun b s1 q => wpAny_pure ?_))
  dsimp only
  rw [List.forIn_nil]
  exact wpAny_pure q

theorem codeAny_compLoop_go {prog : Program} {w : World} {A : Around} {R : Result → Shared → Prop} {s : Shared} {elt target iter : Expr} {ifs : List Expr} {scope : Scope} {pos : Pos} {it acc : Value} {env : Env} (I : Nat → Shared → Prop)
    (turn : ∀ n s, I n s → wpAny (model prog w) A (pyNext it) (fun r s₁ => match r with
      | none => R (.ok .next) s₁
      | some v => wpAny (model prog w) A (letOwnedTupleGo target it v) (fun _ s₁' => wpAny (model prog w) A (assign target env v) (fun _ s₂ =>
          wpAny (model prog w) A (forIn ifs true fun c r => if r = true then do let ok ← isTrue c env (eval c env); pure (ForInStep.yield ok) else pure (ForInStep.yield r)) (fun ok s₃ =>
            if ok = true then wpAny (model prog w) A (eval elt env) (fun x s₄ =>
              wpAny (model prog w) A (call (.builtin "list.append") [acc, x]) (fun _ s₅ => ∃ m, m < n ∧ I m s₅) (fun _ _ => False) s₄) (fun _ _ => False) s₃
            else ∃ m, m < n ∧ I m s₃) (fun _ _ => False) s₂) (fun _ _ => False) s₁') (fun _ _ => False) s₁) (fun _ _ => False) s)
    (n : Nat) (h : I n s) :
    codeAny (model prog w) A (.compLoop (.ListComp elt [⟨target, iter, ifs, 0⟩] scope pos) 0 it acc env) R s := by
  refine codeAny_loop rfl I (fun n s hI => ?_) n h
  show wpAny _ A ((compTurn (.ListComp elt [⟨target, iter, ifs, 0⟩] scope pos) 0 it acc env).onRaise (fun x => do noteFrame x env; theTreesLotGoes x)) _ _ s
  refine wpAny_noted ?_
  rw [compTurn_list]
  refine wpAny_bind (wpAny_standAt (wpAny_bind (wpAny_mono (turn n s hI) (fun r s₁ h₁ => ?_) fun _ _ h' => h'.elim)))
  cases r with
  | none => exact wpAny_pure h₁
  | some v =>
    refine wpAny_bind (wpAny_mono h₁ (fun _ s₁' h₁' => ?_) fun _ _ h' => h'.elim)
    refine wpAny_bind (wpAny_mono h₁' (fun _ s₂ h₂ => wpAny_bind (wpAny_mono h₂ (fun ok s₃ h₃ => ?_) fun _ _ h' => h'.elim)) fun _ _ h' => h'.elim)
    cases ok with
    | false => exact wpAny_pure ⟨rfl, h₃⟩
    | true =>
      exact wpAny_bind (wpAny_bind (wpAny_mono h₃ (fun x s₄ h₄ => wpAny_bind (wpAny_mono h₄ (fun _ s₅ h₅ => wpAny_pure (wpAny_pure ⟨rfl, h₅⟩)) fun _ _ h' => h'.elim)) fun _ _ h' => h'.elim))

/-- [elt for tg in iter if ..]: W: the invariant by the turn, a measure, what is gathered, the block's names, the heap -/
def tComp (wi : TI) (g : TG) (tc : TT) (te : TE) (k : Nat) (mask : List Bool) : TE := fun σ H Q => wi σ H fun J H1 => ∃ W : Nat → Nat → List V → St → Hp → Prop, (∃ m, W 0 m [] (entS k mask σ) H1) ∧
  ∀ i m acc σ' H', W i m acc σ' H' → (J.stop i H' ∧ acc.length ≤ sizeLine ∧ ∀ p, H' p = none → Q (.ref p) (upd H' p (.lst acc))) ∨
    (J.go i H' ∧ ∀ x H2, J.yld i H' x H2 → g x σ' H2 fun σ3 H3 => tc σ3 H3 fun b H4 => if b = true then te σ3 H4 fun y H5 => acc.length < sizeLine ∧ ∃ m', m' < m ∧ W (i + 1) m' (acc ++ [y]) σ3 H5 else ∃ m', m' < m ∧ W (i + 1) m' acc σ3 H4)

/-- the block's frame, behind the block: an untracked record of ours -/
def FrOk (X : Cx) (pins : List (Addr × Obj)) (H : Hp) (s : Shared) (C : Addr) : Prop :=
  H C = none ∧ C ≠ X.env.locals ∧ X.s₀.heap.objs.size ≤ C ∧ (∀ x c, X.env.cells.lookup x = some c → c ≠ C) ∧ (∀ p ∈ X.pn ++ pins, p.1 ≠ C) ∧ ∃ m, s.heap.Ns C m
theorem comp_gen {X : Cx} {elt tg iter : Expr} {ifs : List Expr} {scope : Scope} {pos pos' : Pos} {wi : TI} {g : TG} {tc : TT} {te : TE} {tgs : List Str} {mask : List Bool} {use : Option (Value → Sem Unit)} (hc : X.calm = true) (hi : PI X tg iter wi) (C : CompSt X.N X.env.scope scope tgs mask)
    (inner : ∀ s H ex, PG (cxComp X scope tgs mask s H ex) tg g ∧ PIf (cxComp X scope tgs mask s H ex) ifs tc ∧ PE (cxComp X scope tgs mask s H ex) elt te)
    (hs : ∀ x, foldedSetIterable iter X.env x = pure x) {pins : List (Addr × Obj)} {s : Shared} {σ : St} {H : Hp} {Q : VK} {QQ : Value → Shared → Prop} (I : Inv X pins σ H s) (h : tComp wi g tc te tgs.length mask σ H Q)
    (fin : ∀ (D : Addr) (H' : Hp) (s6 : Shared) (F : Addr), Inv X pins σ H' s6 → FrOk X pins H' s6 F → Q (.ref D) H' → compPost (model X.prog X.w) X.A X.xe use QQ (.ref D) F (.ok .next) s6) :
    wpAny (model X.prog X.w) X.A (comprehension (.ListComp elt [⟨tg, iter, ifs, 0⟩] scope pos) scope X.env pos' (newList []) false (eval iter X.env) use) QQ X.xe s := by
  refine wpAny_comprehension_free (use := use) rfl hs (closure_eq (C.cells I.ok)) C.kind C.names (thn (hi pins s σ H _ I h) fun v s1 h1 => thn h1 fun itv s2 h2 => ?_)
  obtain ⟨it, fp, tn, J, H2, e, I2, T, st2, f2, W, ⟨m0, w0⟩, turn⟩ := h2
  subst e
  refine wpAny_newObj_type ?_
  have I3 : Inv X pins σ H2 { s2 with heap := s2.heap.push { cls := .type "list", data := .seq ([] : List Value).toArray } } := I2.kept (t' := s2.toks) fun b o e => Heap.get?_push_of_some _ e
  generalize hS : ({ s2 with heap := s2.heap.push { cls := .type "list", data := .seq ([] : List Value).toArray } } : Shared) = s3 at I3
  have sz3 : s3.heap.objs.size = s2.heap.objs.size + 1 := by rw [← hS]; exact Heap.size_push ..
  have lst3 : s3.heap.PlainList s2.heap.objs.size ([] : List Value).toArray := ⟨0, by rw [← hS]; exact Heap.get?_push_size _ rfl⟩
  have old3 : ∀ b o, s2.heap.get? b = some o → s3.heap.get? b = some o := fun b o e => by rw [← hS]; exact Heap.get?_push_of_some _ e
  -- the objects that may turn
  generalize hDd : s2.heap.objs.size = D at sz3 lst3
  have fD : FpOk X pins H2 D := by rw [← hDd]; exact I2.fpOk (Nat.le_refl _) (I2.hok.fresh (Nat.le_refl _))
  have fpl : ∀ b ∈ fp, b < D := fun b hb => by
    obtain ⟨o, e, _⟩ := T.obj _ _ st2 b hb
    rw [← hDd]
    exact Heap.lt_size e
  have hex : ∀ b ∈ D :: fp, FpOk X pins H2 b ∧ b < s3.heap.objs.size := fun b hb => by
    rcases List.mem_cons.mp hb with z | z
    · subst z; exact ⟨fD, by rw [sz3]; exact Nat.lt_succ_self _⟩
    · exact ⟨f2 b z, by rw [sz3]; exact Nat.lt_succ_of_lt (fpl b z)⟩
  refine wpAny_newFunctionEnv C.nocell (by intro y hy; simp at hy) (fun h' hn hsb => ?_) C.kind
  have J0 : Inv (cxComp X scope tgs mask s3 H2 (D :: fp)) [] (entS tgs.length mask σ) H2 { s3 with heap := h', toks := s3.toks + ([] : List (Str × Value)).length } := comp_start I3 C hex hn hsb
  have kept : ∀ b u, s3.heap.get? b = some u → h'.get? b = some u := fun b u e => hsb.extBut b u (Nat.ne_of_lt (Heap.lt_size e)) (Heap.get?_push_of_some _ e)
  obtain ⟨pg, pf, pl⟩ := inner s3 H2 (D :: fp)
  -- the loop
  have loop : ∀ s4 : Shared, s4 = { s3 with heap := h', toks := s3.toks + ([] : List (Str × Value)).length } →
      codeAny (model X.prog X.w) X.A (.compLoop (.ListComp elt [⟨tg, iter, ifs, 0⟩] scope pos) 0 (.ref it) (.ref D) (compEnvC scope (clOf X.env scope.names []) s3.heap.objs.size X.env))
        (compPost (model X.prog X.w) X.A X.xe use QQ (.ref D) s3.heap.objs.size) s4 := by
    rintro s4 rfl
    have exok : ∀ {H' : Hp}, (∀ b ∈ D :: fp, H' b = none) → ∀ (pp : List (Addr × Obj)), (∀ p ∈ pp, p.1 ∉ fp) → ∀ b ∈ fp, FpOk (cxComp X scope tgs mask s3 H2 (D :: fp)) pp H' b := fun {H'} hn pp hpp b hb => by
      have g := J0.ok.exf b (List.mem_cons_of_mem _ hb)
      exact ⟨hn b (List.mem_cons_of_mem _ hb), g.1, J0.ok.exfs b (List.mem_cons_of_mem _ hb), .inl (List.mem_cons_of_mem _ hb), g.2, fun p hp z => hpp p (by simpa [cxComp] using hp) (z ▸ hb)⟩
    have DX := J0.ok.exf D List.mem_cons_self
    have Dfp : D ∉ fp := fun z => Nat.lt_irrefl _ (fpl D z)
    refine codeAny_compLoop_go (fun n s' => ∃ i σ' H' acc its, Inv (cxComp X scope tgs mask s3 H2 (D :: fp)) [] σ' H' s' ∧ tn i s'.heap ∧ (∀ b ∈ D :: fp, H' b = none) ∧ Vals acc its ∧ s'.heap.PlainList D its.toArray ∧ W i n acc σ' H') ?_ m0
      ⟨0, _, H2, [], [], J0, T.keep _ _ _ (T.keep _ _ _ st2 fun b hb o e => old3 b o e) fun b hb o e => kept b o e, fun b hb => ((hex b hb).1).1, .nil, lst3.at fun o e => kept _ _ e, w0⟩
    rintro n s5 ⟨i, σ5, H5, acc, its, I5, st5, fr5, va5, ls5, w5⟩
    obtain ⟨nL, lo⟩ := id ls5
    -- the list under its pin
    have pinD : ∀ {σ' : St} {H' : Hp} {s' : Shared}, Inv (cxComp X scope tgs mask s3 H2 (D :: fp)) [] σ' H' s' → (∀ b ∈ D :: fp, H' b = none) → s'.heap.get? D = some { cls := .type "list", dict := none, data := .seq its.toArray nL } →
        Inv (cxComp X scope tgs mask s3 H2 (D :: fp)) [(D, { cls := .type "list", dict := none, data := .seq its.toArray nL })] σ' H' s' := fun {σ' H' s'} I' fr' e' =>
      I'.pins_of fun p hp => by
        have e : p = (D, { cls := .type "list", dict := none, data := .seq its.toArray nL }) := by simpa using hp
        subst e
        exact ⟨e', fr' D List.mem_cons_self, DX.1, J0.ok.exfs D List.mem_cons_self, fun v z => by cases z⟩
    have hppD : ∀ p ∈ [(D, ({ cls := .type "list", dict := none, data := .seq its.toArray nL } : Obj))], p.1 ∉ fp := fun p hp => by
      have e : p = (D, { cls := .type "list", dict := none, data := .seq its.toArray nL }) := by simpa using hp
      subst e
      exact Dfp
    have I5' := pinD I5 fr5 lo
    rcases turn i n acc σ5 H5 w5 with ⟨stop, hz, qn⟩ | ⟨go, step⟩
    · refine thn (T.done (cxComp X scope tgs mask s3 H2 (D :: fp)) rfl rfl rfl hc i _ s5 σ5 H5 (fun _ _ => False) I5' (exok fr5 _ hppD) st5 stop) fun r s6 ⟨hr, I6⟩ => ?_
      subst hr
      obtain ⟨m6, hn6, _⟩ := I6.loc
      have l6 : s6.heap.PlainList D its.toArray := ⟨nL, (I6.pin _ (List.mem_append_right _ (List.mem_singleton.mpr rfl))).1⟩
      have I6' : Inv (cxComp X scope tgs mask s3 H2 (D :: fp)) [] σ5 H5 s6 := I6.pins_of fun p hp => by simp at hp
      have Iout : Inv X pins σ (upd H5 D (.lst acc)) s6 := comp_leave I3 hex List.mem_cons_self I6' (fr5 D List.mem_cons_self) va5 hz l6 (Heap.SameBut.refl _ _)
      have lC : H5 s3.heap.objs.size = none := I6'.free
      refine fin D _ s6 s3.heap.objs.size Iout ⟨?_, Nat.ne_of_gt I3.lt, I3.sz, fun x c e z => ?_, fun p hp z => ?_, m6, hn6⟩ (qn D (fr5 D List.mem_cons_self))
      · rw [upd_ne (fun (z : s3.heap.objs.size = D) => absurd (hex D List.mem_cons_self).2 (by rw [z]; exact Nat.lt_irrefl _))]
        exact lC
      · obtain ⟨v, q⟩ := I3.cell x c e
        exact absurd q.lt (by rw [z]; exact Nat.lt_irrefl _)
      · exact absurd (Heap.lt_size (I3.pin p hp).1) (by rw [z]; exact Nat.lt_irrefl _)
    · refine thn (T.item (cxComp X scope tgs mask s3 H2 (D :: fp)) rfl rfl rfl hc i _ s5 σ5 H5 (fun _ _ => False) I5' (exok fr5 _ hppD) st5 go) fun r s6 ⟨u, hr, h6⟩ => ?_
      subst hr
      refine thn h6 fun _ s7 ⟨x, H7, I7, r7, y7, st7, fr7⟩ => ?_
      have hD7 := (I7.pin _ (List.mem_append_right _ (List.mem_singleton.mpr rfl)))
      have fr7' : ∀ b ∈ D :: fp, H7 b = none := fun b hb => by
        rcases List.mem_cons.mp hb with z | z
        · subst z; exact hD7.2.1
        · exact fr7 b z
      have I7' := I7.pinned (exok fr7' _ hppD) (T.obj _ _ st7)
      have bk : ∀ {σ' : St} {H' : Hp} {s' : Shared}, Inv (cxComp X scope tgs mask s3 H2 (D :: fp)) ([(D, { cls := .type "list", dict := none, data := .seq its.toArray nL })] ++ pinsAt fp s7.heap) σ' H' s' →
          s'.heap.get? D = some { cls := .type "list", dict := none, data := .seq its.toArray nL } ∧ tn (i + 1) s'.heap ∧ (∀ b ∈ D :: fp, H' b = none) := fun {σ' H' s'} I' => by
        have hD := I'.pin (D, { cls := .type "list", dict := none, data := .seq its.toArray nL }) (List.mem_append_right _ (List.mem_append_left _ (List.mem_singleton.mpr rfl)))
        refine ⟨hD.1, T.keep _ _ _ st7 fun b hb o e => (I'.pin (b, o) (List.mem_append_right _ (List.mem_append_right _ (mem_pinsAt hb e)))).1, fun b hb => ?_⟩
        rcases List.mem_cons.mp hb with z | z
        · subst z; exact hD.2.1
        · obtain ⟨o, e, _⟩ := T.obj _ _ st7 b z
          exact (I'.pin (b, o) (List.mem_append_right _ (List.mem_append_right _ (mem_pinsAt z e)))).2.1
      refine thn (pg _ s7 σ5 H7 x u _ I7' r7 (step x H7 y7)) fun _ s8 ⟨σ8, H8, I8, q8⟩ => ?_
      refine thn (pf _ s8 σ8 H8 _ I8 q8) fun ok s9 ⟨H9, I9, q9⟩ => ?_
      cases ok with
      | false =>
        obtain ⟨m', hm, w'⟩ := q9
        obtain ⟨b1, b2, b3⟩ := bk I9
        exact ⟨m', hm, i + 1, σ8, H9, acc, its, I9.pins_of fun p hp => by simp at hp, b2, b3, va5, ⟨nL, b1⟩, w'⟩
      | true =>
        refine thn (pl _ s9 σ8 H9 _ I9 q9) fun y s10 ⟨yv, H10, I10, r10, hz, m', hm, w'⟩ => ?_
        obtain ⟨b1, b2, b3⟩ := bk I10
        have hlen := va5.length
        refine wpAny_list_append_plain (hsz := by rw [List.size_toArray]; omega) (show s10.heap.PlainList D its.toArray from ⟨nL, b1⟩) fun h11 hl11 hs11 => ?_
        refine ⟨m', hm, i + 1, σ8, H10, acc ++ [yv], its ++ [y], ?_, T.keep _ _ _ b2 fun b hb o e => (hs11.2 b (fun z => Dfp (z ▸ hb))).trans e, b3, va5.append (.cons r10 .nil), by simpa using hl11, w'⟩
        have I10' : Inv (cxComp X scope tgs mask s3 H2 (D :: fp)) [] σ8 H10 s10 := I10.pins_of fun p hp => by simp at hp
        exact I10'.turned (t' := s10.toks) (fun b o hb e => (hs11.2 b hb).trans e) (b3 D List.mem_cons_self) DX.1 (.inl List.mem_cons_self) DX.2 fun p hp => by simp [cxComp] at hp
  refine codeAny_compStart_list (loop _ rfl) (T.self X.A 0 _ _ _ (T.keep _ _ _ (T.keep _ _ _ st2 fun b hb o e => old3 b o e) fun b hb o e => kept b o e) (loop _ rfl))
theorem frame_gone {X : Cx} {pins : List (Addr × Obj)} {σ : St} {H : Hp} {s : Shared} {F : Addr} (I : Inv X pins σ H s) (f : FrOk X pins H s F) {h' : Heap} (hs : Heap.SameBut F s.heap h') : Inv X pins σ H { s with heap := h' } := by
  obtain ⟨f0, f1, f2, f3, f4, _⟩ := f
  exact I.turned (t' := s.toks) (fun b o hb e => (hs.2 b hb).trans e) f0 f1 (.inr f2) f3 f4
theorem pe_comp {X : Cx} {elt tg iter : Expr} {ifs : List Expr} {scope : Scope} {pos : Pos} {wi : TI} {g : TG} {tc : TT} {te : TE} {tgs : List Str} {mask : List Bool} (hc : X.calm = true) (hi : PI X tg iter wi) (C : CompSt X.N X.env.scope scope tgs mask)
    (inner : ∀ s H ex, PG (cxComp X scope tgs mask s H ex) tg g ∧ PIf (cxComp X scope tgs mask s H ex) ifs tc ∧ PE (cxComp X scope tgs mask s H ex) elt te)
    (hs : ∀ x, foldedSetIterable iter X.env x = pure x := by intro _; rfl) : PE X (.ListComp elt [⟨tg, iter, ifs, 0⟩] scope pos) (tComp wi g tc te tgs.length mask) := by
  intro pins s σ H Q I h
  rw [eval_ListComp]
  refine comp_gen hc hi C inner hs I h fun D H' s6 F I6 f q => ?_
  obtain ⟨m, hn⟩ := f.2.2.2.2.2
  exact ⟨m, hn, fun h' hs' => ⟨.ref D, H', frame_gone I6 f hs', rfl, q⟩⟩
/-- x = [..] where the store goes ahead of the block's end -/
theorem ps_setC {X : Cx} {elt tg iter : Expr} {ifs : List Expr} {scope : Scope} {cpos pos px : Pos} {wi : TI} {g : TG} {tc : TT} {te : TE} {tgs : List Str} {mask : List Bool} {i : Nat} {x : Str} (hc : X.calm = true) (hN : X.N.Nodup) (hi0 : X.N[i]? = some x) (hx : X.env.scope.names.lookup x = some .local)
    (hi : PI X tg iter wi) (C : CompSt X.N X.env.scope scope tgs mask)
    (inner : ∀ s H ex, PG (cxComp X scope tgs mask s H ex) tg g ∧ PIf (cxComp X scope tgs mask s H ex) ifs tc ∧ PE (cxComp X scope tgs mask s H ex) elt te)
    (hs : ∀ x, foldedSetIterable iter X.env x = pure x) (hsw : swapsWith (.ListComp elt [⟨tg, iter, ifs, 0⟩] scope cpos) (some (.Name x px)) pos.line X.env = pure true) :
    PS X (.Assign [.Name x px] (.ListComp elt [⟨tg, iter, ifs, 0⟩] scope cpos) pos) (tAsg (tComp wi g tc te tgs.length mask) (gName i)) := by
  intro pins s σ H D0 I h
  rw [exec_Assign_Name_used _ _ _ _ hsw]
  refine wpAny_bind (wpAny_standAt (wpAny_bind ?_))
  show wpAny _ X.A (do let _ ← comprehension (.ListComp elt [⟨tg, iter, ifs, 0⟩] scope cpos) scope X.env _ (newList []) false (eval iter X.env) (some (assign (.Name x px) X.env))) _ _ s
  refine wpAny_bind (wpAny_mono (comp_gen (use := some (assign (.Name x px) X.env)) (QQ := fun _ s' => SP X pins D0 .next s') hc hi C inner hs I h fun D H' s6 F I6 f q => ?_) (fun _ s' hq => wpAny_pure (wpAny_pure hq)) fun _ _ e => e)
  show wpAny _ X.A (assign (.Name x px) X.env (.ref D)) _ _ s6
  refine wpAny_assign_Name (store_ok2 I6 hN hi0 (.inl hx) (v := .ref D) rfl (fun s7 I7 ⟨a, sb, ha⟩ => ?_) (.inr hx))
  obtain ⟨f0, f1, f2, f3, f4, m, hn⟩ := f
  have ne : F ≠ a := by
    rcases ha with z | z
    · rw [z]; exact f1
    · exact fun e => f3 x a z e.symm
  have hn7 : s7.heap.Ns F m := hn.sameBut sb ne
  exact ⟨m, hn7, fun h' hs' => ⟨_, H', frame_gone I7 ⟨f0, f1, f2, f3, f4, m, hn7⟩ hs', q⟩⟩
end L2

set_option Elab.async false
set_option linter.all false
set_option maxRecDepth 100000
set_option maxHeartbeats 400000
namespace L2.L3
open PySem PySem.Spec PyProof.Rows

/-! ### operations by values: what is asked is read off the values' kinds -/
def rAdd (K : PySem.W.Frag) : R2 := fun x y H Q => match x, y with
  | .int i, .int j => Q (.int (i + j)) H
  | .str a, .str b => a.length + b.length ≤ sizeLine ∧ Q (.str (a ++ b)) H
  | .ref a, .ref b => (∃ xs ys, SqL K H a xs ∧ SqL K H b ys ∧ xs.length + ys.length ≤ sizeLine ∧ ∀ p, H p = none → Q (.ref p) (upd H p (.lst (xs ++ ys)))) ∨ rCatT K (.ref a) (.ref b) H Q
  | _, _ => False
def rSub : R2 := fun x y H Q => match x, y with
  | .int i, .int j => Q (.int (i - j)) H
  | _, _ => False
def repS (x : Str) (n : Int) : Str := Txt.mul x n
def rMul (K : PySem.W.Frag) : R2 := fun x y H Q => match x, y with
  | .int i, .int j => IntMulOk i j ∧ Q (.int (i * j)) H
  | .str a, .int k => (-(2 ^ 31) ≤ k ∧ k < 2 ^ 31 ∧ a.length * k.toNat ≤ sizeLine) ∧ Q (.str (repS a k)) H
  | .ref a, .int k => rRep (.ref a) (.int k) H Q
  | _, _ => False
def rFdiv : R2 := fun x y H Q => match x, y with
  | .int i, .int j => (0 < j ∧ j < 2 ^ 200) ∧ Q (.int (i / j)) H
  | _, _ => False
def rMod : R2 := fun x y H Q => match x, y with
  | .int i, .int j => 0 < j ∧ Q (.int (i % j)) H
  | _, _ => False
def rPow : R2 := fun x y H Q => match x, y with
  | .int i, .int j => CPow i j ∧ Q (.int (i ^ j.toNat)) H
  | _, _ => False
section
variable {X : Cx}
theorem op_add : OpR X (binaryOp .Add) (rAdd X.K) := by
  intro pins s σ H x y v u Q I rx ry h
  cases x with
  | int i =>
    cases y with
    | int j => exact _root_.L2.op_add pins s σ H _ _ v u Q I rx ry ⟨i, j, rfl, rfl, h⟩
    | _ => exact False.elim h
  | str a =>
    cases y with
    | str b => exact op_add_str pins s σ H _ _ v u Q I rx ry ⟨a, b, rfl, rfl, h.1, h.2⟩
    | _ => exact False.elim h
  | ref a =>
    cases y with
    | ref b =>
      rcases h with ⟨xs, ys, hx, hy, hz, q⟩ | h
      · cases rx
        cases ry
        obtain ⟨its, r, ⟨⟨cls, dd, data, sl⟩, n1, e1, c1, d1, s1⟩, z1⟩ := I.list hx
        obtain ⟨its2, r2, ⟨⟨cls2, dd2, data2, sl2⟩, n2, e2, c2, d2, s2⟩, z2⟩ := I.list hy
        simp only at c1 s1 c2 s2
        subst c1 s1 c2 s2
        have hl := r.length
        have hl2 := r2.length
        refine concat_meets ⟨_, e1, rfl⟩ ⟨_, e2, rfl⟩ noFill_list_add seq_list_add PySem.F.slot_list_add PySem.F.entry_list_add (PySem.F.args_list_add_2 _ _) (list_addW a b its.toArray its2.toArray n1 n2 dd dd2 sl sl2 (by simp; omega)) ⟨e1, e2, ?_⟩
        have ea : its.toArray ++ its2.toArray = (its ++ its2).toArray := by simp
        rw [ea]
        exact ⟨.ref _, _, I.lnew (t' := s.toks) (r.append r2) (by rw [List.length_append]; omega), rfl, q _ I.fresh⟩
      · exact op_catT pins s σ H _ _ v u Q I rx ry h
    | _ => exact False.elim h
  | _ => exact False.elim h
theorem op_sub : OpR X (binaryOp .Sub) rSub := by
  intro pins s σ H x y v u Q I rx ry h
  cases x with
  | int i =>
    cases y with
    | int j => exact _root_.L2.op_sub pins s σ H _ _ v u Q I rx ry ⟨i, j, rfl, rfl, h⟩
    | _ => exact False.elim h
  | _ => exact False.elim h
theorem op_fdiv : OpR X (binaryOp .FloorDiv) rFdiv := by
  intro pins s σ H x y v u Q I rx ry h
  cases x with
  | int i =>
    cases y with
    | int j =>
      obtain ⟨t, rfl⟩ := rx
      obtain ⟨t', rfl⟩ := ry
      obtain ⟨⟨h1, h2⟩, q⟩ := h
      refine floordiv_int (by omega) ?_ (.inl (PyProof.noPylong_of_log2 ?_))
      · rw [Int.fdiv_eq_ediv_of_nonneg i (by omega)]
        exact ⟨.int _, H, I.tok _, ⟨_, rfl⟩, q⟩
      · have : j.natAbs < 2 ^ 200 := by omega
        have := (Nat.log2_lt (show j.natAbs ≠ 0 by omega)).mpr this
        omega
    | _ => exact False.elim h
  | _ => exact False.elim h
theorem op_mod : OpR X (binaryOp .Mod) rMod := by
  intro pins s σ H x y v u Q I rx ry h
  cases x with
  | int i =>
    cases y with
    | int j => exact _root_.L2.op_mod pins s σ H _ _ v u Q I rx ry ⟨i, j, rfl, rfl, h.1, h.2⟩
    | _ => exact False.elim h
  | _ => exact False.elim h
theorem op_pow : OpR X (binaryOp .Pow) rPow := by
  intro pins s σ H x y v u Q I rx ry h
  cases x with
  | int i =>
    cases y with
    | int j => exact _root_.L2.op_pow pins s σ H _ _ v u Q I rx ry ⟨i, j, rfl, rfl, h.1, h.2⟩
    | _ => exact False.elim h
  | _ => exact False.elim h
theorem op_mul : OpR X (binaryOp .Mult) (rMul X.K) := by
  intro pins s σ H x y v u Q I rx ry h
  cases x with
  | int i =>
    cases y with
    | int j =>
      obtain ⟨t, rfl⟩ := rx
      obtain ⟨t', rfl⟩ := ry
      exact mul_int ⟨.int _, H, I.tok _, ⟨_, rfl⟩, h.2⟩ h.1
    | _ => exact False.elim h
  | str a =>
    cases y with
    | int k =>
      obtain ⟨t, rfl⟩ := rx
      obtain ⟨t', rfl⟩ := ry
      obtain ⟨⟨h1, h2, h3⟩, q⟩ := h
      refine SB.mul ⟨?_, fun _ _ => ?_, fun _ _ => ?_⟩ fun t' kk => ⟨.str (repS a k), H, I.tok _, ⟨_, rfl⟩, q⟩
      · have e1 : decide (k < -(2 ^ 63 : Int)) = false := decide_eq_false (by omega)
        have e2 : decide (k ≥ 2 ^ 63) = false := decide_eq_false (by omega)
        rw [e1, e2]; rfl
      · have e : (a.length : Int) * k = ((a.length * k.toNat : Nat) : Int) := by
          rw [Int.natCast_mul, Int.toNat_of_nonneg (by omega)]
        have hz : sizeLine = 16777216 := sizeLine_eq
        have := Int.le_ediv_of_mul_le (a := (a.length : Int)) (b := 2 ^ 63 - 1) (c := k) (by omega) (by rw [e]; omega)
        omega
      · unfold Builtin.Str.tooLong
        exact decide_eq_false (by omega)
    | _ => exact False.elim h
  | ref a =>
    cases y with
    | int k => exact op_rep pins s σ H _ _ v u Q I rx ry h
    | _ => exact False.elim h
  | _ => exact False.elim h
end
end L2.L3

set_option Elab.async false
set_option linter.all false
set_option maxRecDepth 100000
set_option maxHeartbeats 400000
namespace L2.L3
open PySem PySem.Spec PyProof.Rows

/-! ### a value that stands for data -/
mutual
inductive Rep (K : PySem.W.Frag) (H : Hp) : V → PyData → Prop where
  | non : Rep K H .non .none
  | bl (b : Bool) : Rep K H (.bl b) (.bool b)
  | int (i : Int) : Rep K H (.int i) (.int i)
  | str (x : Str) : Rep K H (.str x) (.str x)
  | lst {a : Addr} {xs : List V} {ds : List PyData} : SqL K H a xs → Reps K H xs ds → Rep K H (.ref a) (.list ds)
  | tup {a : Addr} {xs : List V} {ds : List PyData} : SqT K H a xs → Reps K H xs ds → Rep K H (.ref a) (.tuple ds)
inductive Reps (K : PySem.W.Frag) (H : Hp) : List V → List PyData → Prop where
  | nil : Reps K H [] []
  | cons {x : V} {d : PyData} {xs : List V} {ds : List PyData} : Rep K H x d → Reps K H xs ds → Reps K H (x :: xs) (d :: ds)
end
theorem Reps.length {K : PySem.W.Frag} {H : Hp} : ∀ {xs : List V} {ds : List PyData}, Reps K H xs ds → xs.length = ds.length
  | _, _, .nil => rfl
  | _, _, .cons _ t => by rw [List.length_cons, List.length_cons, Reps.length t]
section
variable {X : Cx} {pins : List (Addr × Obj)} {σ : St} {H : Hp} {s : Shared}
mutual
theorem Rep.reads (I : Inv X pins σ H s) : ∀ {x : V} {d : PyData} {u : Value}, Rep X.K H x d → RelV x u → ∃ as, Reads s.heap u d as
  | _, _, u, .non, r => by cases r; exact ⟨_, .none⟩
  | _, _, u, .bl b, r => by cases r; exact ⟨_, .bool b⟩
  | _, _, u, .int i, r => by obtain ⟨t, rfl⟩ := r; exact ⟨_, .int i t⟩
  | _, _, u, .str x, r => by obtain ⟨t, rfl⟩ := r; exact ⟨_, .str x t⟩
  | _, _, u, .lst h q, r => by
    cases r
    obtain ⟨its, rv, ⟨o, n, e, c, _, d⟩, _⟩ := I.list h
    obtain ⟨as, ra⟩ := Reps.reads I q rv
    exact ⟨_, .list e c d (by simpa using ra)⟩
  | _, _, u, .tup h q, r => by
    cases r
    obtain ⟨its, rv, ⟨o, e, c, n, d⟩, _⟩ := I.tuple h
    obtain ⟨as, ra⟩ := Reps.reads I q rv
    exact ⟨_, .tuple e c d (by simpa using ra)⟩
theorem Reps.reads (I : Inv X pins σ H s) : ∀ {xs : List V} {ds : List PyData} {us : List Value}, Reps X.K H xs ds → Vals xs us → ∃ as, ReadsAll s.heap us ds as
  | _, _, _, .nil, .nil => ⟨_, .nil⟩
  | _, _, _, .cons h t, .cons r rs => by
    obtain ⟨as, ra⟩ := Rep.reads I h r
    obtain ⟨bs, rb⟩ := Reps.reads I t rs
    exact ⟨_, .cons ra rb⟩
end
/-! ### == and != -/
def okD (d : PyData) : Prop := d.canLay0 = true ∧ d.depth ≤ 64
def rEq (K : PySem.W.Frag) (neg : Bool) : R2 := fun x y H Q => match x, y with
  | .int i, .int j => Q (.bl (if neg then !decide (i = j) else decide (i = j))) H
  | .str a, .str b => Q (.bl (if neg then !decide (a = b) else decide (a = b))) H
  | .bl a, .bl b => Q (.bl (if neg then !decide (a = b) else decide (a = b))) H
  | x, y => ∃ dx dy, Rep K H x dx ∧ Rep K H y dy ∧ okD dx ∧ okD dy ∧ Q (.bl (if neg then !PyData.eqv dx dy else PyData.eqv dx dy)) H
theorem op_eq (hu : X.A.units + 64 < cLine) : OpR X (compareOp .Eq) (rEq X.K false) := by
  intro pins s σ H x y v u Q I rx ry h
  have gen : (∃ dx dy, Rep X.K H x dx ∧ Rep X.K H y dy ∧ okD dx ∧ okD dy ∧ Q (.bl (if false = true then !PyData.eqv dx dy else PyData.eqv dx dy)) H) → wpAny (model X.prog X.w) X.A (compareOp .Eq v u) (EP X pins σ Q) X.xe s := by
    rintro ⟨dx, dy, h1, h2, ⟨o1, o2⟩, ⟨o3, o4⟩, q⟩
    obtain ⟨as, ra⟩ := h1.reads I rx
    obtain ⟨bs, rb⟩ := h2.reads I ry
    exact SeqAt.compareEq_reads ra rb o1 o3 (by omega) ⟨.bl _, H, I, rfl, q⟩
  have sc : scal x y = true → Q (.bl (decide (x = y))) H → wpAny (model X.prog X.w) X.A (compareOp .Eq v u) (EP X pins σ Q) X.xe s := fun h1 h2 => _root_.L2.op_eq pins s σ H x y v u Q I rx ry ⟨h1, h2⟩
  cases x with
  | int i =>
    cases y with
    | int j => exact sc rfl (by simpa [rEq] using h)
    | _ => exact gen h
  | str a =>
    cases y with
    | str b => exact sc rfl (by simpa [rEq] using h)
    | _ => exact gen h
  | bl a =>
    cases y with
    | bl b => exact sc rfl (by simpa [rEq] using h)
    | _ => exact gen h
  | _ => exact gen h
theorem op_ne (hu : X.A.units + 64 < cLine) : OpR X (compareOp .NotEq) (rEq X.K true) := by
  intro pins s σ H x y v u Q I rx ry h
  have gen : (∃ dx dy, Rep X.K H x dx ∧ Rep X.K H y dy ∧ okD dx ∧ okD dy ∧ Q (.bl (if true = true then !PyData.eqv dx dy else PyData.eqv dx dy)) H) → wpAny (model X.prog X.w) X.A (compareOp .NotEq v u) (EP X pins σ Q) X.xe s := by
    rintro ⟨dx, dy, h1, h2, ⟨o1, o2⟩, ⟨o3, o4⟩, q⟩
    obtain ⟨as, ra⟩ := h1.reads I rx
    obtain ⟨bs, rb⟩ := h2.reads I ry
    exact SeqAt.compareNe_reads ra rb o1 o3 (by omega) ⟨.bl _, H, I, rfl, q⟩
  have sc : scal x y = true → Q (.bl (!decide (x = y))) H → wpAny (model X.prog X.w) X.A (compareOp .NotEq v u) (EP X pins σ Q) X.xe s := fun h1 h2 => _root_.L2.op_ne pins s σ H x y v u Q I rx ry ⟨h1, h2⟩
  cases x with
  | int i =>
    cases y with
    | int j => exact sc rfl (by simpa [rEq] using h)
    | _ => exact gen h
  | str a =>
    cases y with
    | str b => exact sc rfl (by simpa [rEq] using h)
    | _ => exact gen h
  | bl a =>
    cases y with
    | bl b => exact sc rfl (by simpa [rEq] using h)
    | _ => exact gen h
  | _ => exact gen h

/-! ### <, <=, >, >= -/
def rOrd (f : Int → Int → Bool) : R2 := fun x y H Q => match x, y with
  | .int i, .int j => Q (.bl (f i j)) H
  | _, _ => False
theorem op_ord {op : CmpOp} {f : Int → Int → Bool} (h0 : OpR X (compareOp op) (rI0 fun i j => .bl (f i j))) : OpR X (compareOp op) (rOrd f) := by
  intro pins s σ H x y v u Q I rx ry h
  cases x with
  | int i =>
    cases y with
    | int j => exact h0 pins s σ H _ _ v u Q I rx ry ⟨i, j, rfl, rfl, h⟩
    | _ => exact False.elim h
  | _ => exact False.elim h

/-! ### in, not in -/
/-- the sign's codes are among the text's; any texts: by the model's own search -/
def inStr (b a : Str) : Bool := match a.cps.toList with
  | [c] => decide (c ∈ b.cps.toList)
  | _ => !(Builtin.Str.occurrences b a 0 b.length 1).isEmpty
theorem inStr_eq (b a : Str) : inStr b a = !(Builtin.Str.occurrences b a 0 b.length 1).isEmpty := by
  unfold inStr
  split
  · rename_i c e
    have ea : a = ⟨#[c]⟩ := by
      obtain ⟨cps⟩ := a
      have : cps = #[c] := by
        apply Array.toList_inj.mp
        simpa using e
      rw [this]
    rw [ea]
    exact (StrLaws.found_one b c).symm
  · rfl
def rInU (K : PySem.W.Frag) (neg : Bool) : R2 := fun x y H Q => match y with
  | .str b => match x with
    | .str a => Q (.bl (if neg then !inStr b a else inStr b a)) H
    | _ => False
  | .ref p => rIn K neg x (.ref p) H Q ∨ (∃ d ds, Rep K H x d ∧ (Rep K H (.ref p) (.list ds) ∨ Rep K H (.ref p) (.tuple ds)) ∧ okD d ∧ okD (.list ds) ∧ Q (.bl (if neg then !(ds.any fun y => PyData.eqv y d) else ds.any fun y => PyData.eqv y d)) H)
  | _ => False
theorem okD_items {ds : List PyData} (h : okD (.list ds)) : PyData.canLayAll0 ds = true ∧ PyData.depthAll ds ≤ 63 := by
  obtain ⟨h1, h2⟩ := h
  simp only [PyData.canLay0] at h1
  simp only [PyData.depth] at h2
  exact ⟨h1, by omega⟩
theorem op_in (hu : X.A.units + 66 < cLine) : OpR X (compareOp .In) (rInU X.K false) := by
  intro pins s σ H x y v u Q I rx ry h
  cases y with
  | str b =>
    cases x with
    | str a =>
      refine op_in_str pins s σ H _ _ v u Q I rx ry ⟨a, b, rfl, rfl, ?_⟩
      rw [← inStr_eq]
      simpa [rInU] using h
    | _ => exact False.elim h
  | ref p =>
    rcases h with h | ⟨d, ds, hx, hp, o1, o2, q⟩
    · exact op_in_seq pins s σ H _ _ v u Q I rx ry h
    · obtain ⟨as, ra⟩ := hx.reads I rx
      obtain ⟨c1, c2⟩ := okD_items o2
      rcases hp with hp | hp
      · obtain ⟨bs, rb⟩ := hp.reads I ry
        exact SeqAt.in_list_reads rb ra c1 o1.1 (by omega) ⟨.bl _, H, I, rfl, q⟩
      · obtain ⟨bs, rb⟩ := hp.reads I ry
        exact SeqAt.in_tuple_reads rb ra c1 o1.1 (by omega) ⟨.bl _, H, I, rfl, q⟩
  | _ => exact False.elim h
theorem op_notin (hu : X.A.units + 66 < cLine) : OpR X (compareOp .NotIn) (rInU X.K true) := by
  intro pins s σ H x y v u Q I rx ry h
  cases y with
  | str b =>
    cases x with
    | str a =>
      refine op_notin_str pins s σ H _ _ v u Q I rx ry ⟨a, b, rfl, rfl, ?_⟩
      rw [← inStr_eq]
      simpa [rInU] using h
    | _ => exact False.elim h
  | ref p =>
    rcases h with h | ⟨d, ds, hx, hp, o1, o2, q⟩
    · exact op_notIn_seq pins s σ H _ _ v u Q I rx ry h
    · obtain ⟨as, ra⟩ := hx.reads I rx
      obtain ⟨c1, c2⟩ := okD_items o2
      rcases hp with hp | hp
      · obtain ⟨bs, rb⟩ := hp.reads I ry
        exact SeqAt.notIn_list_reads rb ra c1 o1.1 (by omega) ⟨.bl _, H, I, rfl, q⟩
      · obtain ⟨bs, rb⟩ := hp.reads I ry
        exact SeqAt.notIn_tuple_reads rb ra c1 o1.1 (by omega) ⟨.bl _, H, I, rfl, q⟩
  | _ => exact False.elim h
end
end L2.L3

set_option Elab.async false
set_option linter.all false
set_option maxRecDepth 100000
set_option maxHeartbeats 400000
namespace L2.L3
open PySem PySem.Spec PyProof.Rows

/-! ### a text's signs, walked -/
def Its (z : Str) : It := ⟨fun i _ => i < z.cps.size, fun i H x H' => H' = H ∧ ∃ c, z.cps[i]? = some c ∧ x = .str ⟨#[c]⟩, fun i _ => z.cps.size ≤ i⟩
theorem turn_str {P : Program} {w : World} {K : PySem.W.Frag} {tg : Expr} (it : Addr) (z : Str) (t : Tok) : Turn P w K tg (Its z) [it] it (fun i h => h.IsStrIter it (strIterType z) z t i) where
  mem := by simp
  obj := fun i h st b hb => by
    have e : b = it := by simpa using hb
    subst e
    obtain ⟨o, e, c, d⟩ := st
    exact ⟨o, e, fun v z => by rw [d] at z; cases z⟩
  keep := fun i h h' st k => by
    obtain ⟨o, e, r⟩ := st
    exact ⟨o, k it (by simp) o e, r⟩
  item := by
    intro X hP hw hK hc i pins s σ H E I hf st hg
    subst hP hw hK
    obtain ⟨f0, f1, f2, f3, f4, f5⟩ := hf it (by simp)
    have hg' : i < z.cps.size := hg
    obtain ⟨ch, hx⟩ : ∃ ch, z.cps[i]? = some ch := ⟨_, Array.getElem?_eq_getElem hg'⟩
    have key : ∀ h', h'.IsStrIter it (strIterType z) z t (i + 1) → Heap.SameBut it s.heap h' → ∃ u, some (Value.str ⟨#[ch]⟩ s.toks) = some u ∧
        wpAny (model X.prog X.w) X.A (letOwnedTupleGo tg (.ref it) u) (fun _ s2 => ∃ x H', Inv X pins σ H' s2 ∧ RelV x u ∧ (Its z).yld i H x H' ∧ s2.heap.IsStrIter it (strIterType z) z t (i + 1) ∧ ∀ b ∈ [it], H' b = none) E { s with heap := h', toks := s.toks + 1 } := fun h' st' sb => by
      have I1 : Inv X pins σ H { s with heap := h', toks := s.toks + 1 } := I.turned (fun b o hb e => (sb.2 b hb).trans e) f0 f1 f3 f4 f5
      obtain ⟨o, e, c, d⟩ := id st'
      refine ⟨_, rfl, go_of (s := { s with heap := h', toks := s.toks + 1 }) (n := strIterType z) e c d ?_ ⟨.str ⟨#[ch]⟩, H, I1, ⟨_, rfl⟩, ⟨rfl, _, hx, rfl⟩, st', fun b hb => (hf b hb).1⟩⟩
      unfold strIterType
      split <;> decide
    cases ha : z.cps.all (· < 128) with
    | false =>
      have e1 : strIterType z = "str_iterator" := by simp [strIterType, ha]
      exact wpAny_pyNext_wide_item (by rw [← e1]; exact st) hx fun h' st' sb => key h' (by rw [e1]; exact st') sb
    | true =>
      have e1 : strIterType z = "str_ascii_iterator" := by simp [strIterType, ha]
      exact wpAny_pyNext_ascii_item (by rw [← e1]; exact st) hx fun h' st' sb => key h' (by rw [e1]; exact st') sb
  done := by
    intro X hP hw hK hc i pins s σ H E I hf st hg
    subst hP hw hK
    obtain ⟨f0, f1, f2, f3, f4, f5⟩ := hf it (by simp)
    have hx : z.cps[i]? = none := by
      rw [Array.getElem?_eq_none_iff]
      exact hg
    cases ha : z.cps.all (· < 128) with
    | false =>
      have e1 : strIterType z = "str_iterator" := by simp [strIterType, ha]
      rw [e1] at st
      exact wpAny_pyNext_wide_end (I.ok.hd hc) st hx fun h' eb => ⟨rfl, I.turned (t' := s.toks) (fun b o hb e => eb b o hb e) f0 f1 f3 f4 f5⟩
    | true =>
      have e1 : strIterType z = "str_ascii_iterator" := by simp [strIterType, ha]
      rw [e1] at st
      exact wpAny_pyNext_ascii_end (I.ok.hd hc) st hx fun h' eb => ⟨rfl, I.turned (t' := s.toks) (fun b o hb e => eb b o hb e) f0 f1 f3 f4 f5⟩
  self := by
    intro A i s Q E st h
    cases ha : z.cps.all (· < 128) with
    | false =>
      have e1 : strIterType z = "str_iterator" := by simp [strIterType, ha]
      rw [e1] at st
      exact wpAny_pyIter_striter_wide st h
    | true =>
      have e1 : strIterType z = "str_ascii_iterator" := by simp [strIterType, ha]
      rw [e1] at st
      exact wpAny_pyIter_striter_ascii st h

/-- what a value gives when it is walked -/
def iVal (K : PySem.W.Frag) (t : TE) : TI := fun σ H R => t σ H fun v H1 => match v with
  | .str z => R (Its z) H1
  | .ref a => ((∃ xs, SqL K H1 a xs) ∧ R (Itl K a) H1) ∨ ((∃ xs, SqT K H1 a xs) ∧ R (Itt K a) H1)
  | _ => False
theorem pi_val {X : Cx} {tg l : Expr} {t : TE} (hl : PE X l t) : PI X tg l (iVal X.K t) := by
  intro pins s σ H R I h
  refine thn (hl pins s σ H _ I h) fun v s1 ⟨x, H1, I1, r1, q1⟩ => ?_
  have fp1 : ∀ b ∈ [s1.heap.objs.size], FpOk X pins H1 b := fun b hb => by
    have e : b = s1.heap.objs.size := by simpa using hb
    subst e
    exact I1.fpOk (Nat.le_refl _) (I1.hok.fresh (Nat.le_refl _))
  cases x with
  | str z =>
    obtain ⟨t, rfl⟩ := r1
    refine wpAny_pyIter_strU ?_
    exact ⟨s1.heap.objs.size, [s1.heap.objs.size], _, _, H1, rfl, I1.kept (t' := s1.toks) fun b o e => Heap.get?_push_of_some _ e, turn_str _ z t, ⟨_, Heap.get?_push_size _ rfl, rfl, rfl⟩, fp1, q1⟩
  | ref a =>
    cases r1
    rcases q1 with ⟨⟨xs, hq⟩, q⟩ | ⟨⟨xs, hq⟩, q⟩
    · obtain ⟨its, rv, p, hz⟩ := I1.list hq
      refine wpAny_pyIter_list p.isList ?_
      exact ⟨s1.heap.objs.size, [s1.heap.objs.size], _, _, H1, rfl, I1.kept (t' := s1.toks) fun b o e => Heap.get?_push_of_some _ e, turn_list a _, ⟨_, Heap.get?_push_size _ rfl, rfl, rfl⟩, fp1, q⟩
    · obtain ⟨its, rv, p, hz⟩ := I1.tuple hq
      refine wpAny_pyIter_tuple (show s1.heap.IsTuple a its.toArray from p) ?_
      exact ⟨s1.heap.objs.size, [s1.heap.objs.size], _, _, H1, rfl, I1.kept (t' := s1.toks) fun b o e => Heap.get?_push_of_some _ e, turn_tuple a _, ⟨_, Heap.get?_push_size _ rfl, rfl, rfl⟩, fp1, q⟩
  | _ => exact False.elim q1

/-! ### all, any over a list of bools -/
section
variable {X : Cx}
theorem bools_of : ∀ {bs : List Bool} {us : List Value}, Vals (bs.map V.bl) us → ∀ (i : Nat) (v : Value), us[i]? = some v → ∃ b, bs[i]? = some b ∧ v = Value.bool b
  | [], _, .nil, i, v, h => by simp at h
  | b :: bs, _, .cons r t, 0, v, h => by
    simp at h
    subst h
    exact ⟨b, by simp, r⟩
  | b :: bs, _, .cons r t, i + 1, v, h => by
    obtain ⟨c, h1, h2⟩ := bools_of (bs := bs) t i v (by simpa using h)
    exact ⟨c, by simpa using h1, h2⟩
theorem range_all (bs : List Bool) : (List.range bs.length).all (fun i => bs.getD i true) = bs.all id := by
  rw [Bool.eq_iff_iff, List.all_eq_true, List.all_eq_true]
  constructor
  · intro h b hb
    obtain ⟨i, hi, e⟩ := List.getElem_of_mem hb
    have := h i (by simpa using hi)
    simp [List.getD, hi, e] at this
    simpa using this
  · intro h i hi
    have hi' : i < bs.length := by simpa using hi
    have := h bs[i] (List.getElem_mem hi')
    simpa [List.getD, hi'] using this
theorem range_any (bs : List Bool) : (List.range bs.length).any (fun i => bs.getD i false) = bs.any id := by
  rw [Bool.eq_iff_iff, List.any_eq_true, List.any_eq_true]
  constructor
  · rintro ⟨i, hi, e⟩
    have hi' : i < bs.length := by simpa using hi
    exact ⟨bs[i], List.getElem_mem hi', by simpa [List.getD, hi'] using e⟩
  · rintro ⟨b, hb, e⟩
    obtain ⟨i, hi, e'⟩ := List.getElem_of_mem hb
    exact ⟨i, by simpa using hi, by simp [List.getD, hi, e']; simpa using e⟩
def rAll (K : PySem.W.Frag) : List V → Hp → VK → Prop := fun vs H Q => match vs with
  | [.ref a] => ∃ bs : List Bool, SqL K H a (bs.map V.bl) ∧ Q (.bl (bs.all id)) H
  | _ => False
def rAny (K : PySem.W.Frag) : List V → Hp → VK → Prop := fun vs H Q => match vs with
  | [.ref a] => ∃ bs : List Bool, SqL K H a (bs.map V.bl) ∧ Q (.bl (bs.any id)) H
  | _ => False
theorem call_all (hh : X.calm = true) : CallR X (.builtin "all") (rAll X.K) := by
  intro pins s σ H xs us Q I r h
  match xs, h with
  | [.ref a], ⟨bs, hq, q⟩ =>
    obtain ⟨u, rfl, ru⟩ := vals1 r
    cases ru
    obtain ⟨its, rv, p, hz⟩ := I.list hq
    have hl := rv.length
    rw [List.length_map] at hl
    refine call_all_walk (wpAny_pyIter_list p.isList ?_)
    have hlt : a < s.heap.objs.size := by obtain ⟨o, n, e, _⟩ := p; exact Heap.lt_size e
    refine ⟨s.heap.objs.size, _, _, _, _, _, fun i => bs.getD i true, rfl, Walks.list (A := X.A.in1) (I.ok.hd hh) s.heap.objs.size a (Nat.ne_of_lt hlt) its.toArray, ⟨⟨_, Heap.get?_push_size _ rfl, rfl, rfl⟩, ?_⟩, ?_, ?_⟩
    · obtain ⟨o, n, e, c, d, sq⟩ := p
      exact ⟨o, Heap.get?_push_of_some _ e, c, n, sq⟩
    · intro i v s' Q' E' hP hQ'
      obtain ⟨b, hb, rfl⟩ := bools_of rv i v (by simpa using hP)
      refine wpAny_truthy_bool ?_
      have : bs.getD i true = b := by simp [List.getD, hb]
      rw [← this]
      exact hQ'
    · intro h' tk hk
      have e1 : (List.range its.toArray.size).all (fun i => bs.getD i true) = bs.all id := by
        rw [List.size_toArray, ← hl, range_all]
      rw [e1]
      exact ⟨.bl _, H, I.kept (t' := tk) (fun b o e => hk b o (by simp; exact Nat.ne_of_lt (Heap.lt_size e)) (Heap.get?_push_of_some _ e)), rfl, q⟩
theorem call_any (hh : X.calm = true) : CallR X (.builtin "any") (rAny X.K) := by
  intro pins s σ H xs us Q I r h
  match xs, h with
  | [.ref a], ⟨bs, hq, q⟩ =>
    obtain ⟨u, rfl, ru⟩ := vals1 r
    cases ru
    obtain ⟨its, rv, p, hz⟩ := I.list hq
    have hl := rv.length
    rw [List.length_map] at hl
    refine call_any_walk (wpAny_pyIter_list p.isList ?_)
    have hlt : a < s.heap.objs.size := by obtain ⟨o, n, e, _⟩ := p; exact Heap.lt_size e
    refine ⟨s.heap.objs.size, _, _, _, _, _, fun i => bs.getD i false, rfl, Walks.list (A := X.A.in1) (I.ok.hd hh) s.heap.objs.size a (Nat.ne_of_lt hlt) its.toArray, ⟨⟨_, Heap.get?_push_size _ rfl, rfl, rfl⟩, ?_⟩, ?_, ?_⟩
    · obtain ⟨o, n, e, c, d, sq⟩ := p
      exact ⟨o, Heap.get?_push_of_some _ e, c, n, sq⟩
    · intro i v s' Q' E' hP hQ'
      obtain ⟨b, hb, rfl⟩ := bools_of rv i v (by simpa using hP)
      refine wpAny_truthy_bool ?_
      have : bs.getD i false = b := by simp [List.getD, hb]
      rw [← this]
      exact hQ'
    · intro h' tk hk
      have e1 : (List.range its.toArray.size).any (fun i => bs.getD i false) = bs.any id := by
        rw [List.size_toArray, ← hl, range_any]
      rw [e1]
      exact ⟨.bl _, H, I.kept (t' := tk) (fun b o e => hk b o (by simp; exact Nat.ne_of_lt (Heap.lt_size e)) (Heap.get?_push_of_some _ e)), rfl, q⟩

/-! ### len -/
def rLen (K : PySem.W.Frag) : List V → Hp → VK → Prop := fun vs H Q => match vs with
  | [.str z] => z.length ≤ sizeLine ∧ Q (.int z.length) H
  | [.ref a] => (∃ xs, SqL K H a xs ∧ Q (.int xs.length) H) ∨ (∃ xs, SqT K H a xs ∧ Q (.int xs.length) H)
  | _ => False
theorem call_len : CallR X (.builtin "len") (rLen X.K) := by
  intro pins s σ H xs us Q I r h
  match xs, h with
  | [.str z], h => exact call_len_str pins s σ H _ us Q I r ⟨z, rfl, h⟩
  | [.ref a], .inl ⟨xs, hq, q⟩ => exact call_len_seq pins s σ H _ us Q I r ⟨a, xs, rfl, .inl hq, q⟩
  | [.ref a], .inr ⟨xs, hq, q⟩ => exact call_len_seq pins s σ H _ us Q I r ⟨a, xs, rfl, .inr hq, q⟩

/-! ### isinstance -/
def cV : V → Option Value
  | .ty n => some (.type n)
  | .ref C => some (.ref C)
  | _ => none
/-- the kind of a list or tuple that is read -/
def TyQ (K : PySem.W.Frag) (H : Hp) (x : V) (t : Value) : Prop := (∃ a xs, x = .ref a ∧ SqL K H a xs ∧ t = .type "list") ∨ ∃ a xs, x = .ref a ∧ SqT K H a xs ∧ t = .type "tuple"
def rIsI (K : PySem.W.Frag) : List V → Hp → VK → Prop := fun vs H Q => match vs with
  | [x, c] => ∃ t cv b, (TyOf K H x t ∨ TyQ K H x t) ∧ cV c = some cv ∧ PySem.W.kitOne K t cv = some b ∧ Q (.bl b) H
  | _ => False
theorem call_isi : CallR X (.builtin "isinstance") (rIsI X.K) := by
  intro pins s σ H xs us Q I r h
  match xs, h with
  | [x, c], ⟨t, cv, b, ty, hc, hk, q⟩ =>
    obtain ⟨u, w', rfl, ru, rw'⟩ := vals2 r
    have e : w' = cv := by
      cases c with
      | ty n =>
        have h1 : w' = Value.type n := rw'
        have h2 : some (Value.type n) = some cv := hc
        rw [h1]; exact Option.some.inj h2
      | ref C =>
        have h1 : w' = Value.ref C := rw'
        have h2 : some (Value.ref C) = some cv := hc
        rw [h1]; exact Option.some.inj h2
      | _ => cases hc
    subst e
    rcases ty with ty | ⟨a, xs, rfl, hq, rfl⟩ | ⟨a, xs, rfl, hq, rfl⟩
    · exact isinst_ok I ru ty hk fun tk => ⟨.bl b, H, I.tok tk, rfl, q⟩
    · cases ru
      obtain ⟨its, rv, ⟨o, n, e, c, _, d⟩, _⟩ := I.list hq
      exact PySem.W.kia_one PySem.W.kitx_list I.kIn ⟨o, e, c⟩ hk (fun z => nomatch z) fun tk => ⟨.bl b, H, I.tok tk, rfl, q⟩
    · cases ru
      obtain ⟨its, rv, ⟨o, e, c, n, d⟩, _⟩ := I.tuple hq
      exact PySem.W.kia_one PySem.W.kitx_tuple I.kIn ⟨o, e, c⟩ hk (fun z => nomatch z) fun tk => ⟨.bl b, H, I.tok tk, rfl, q⟩

/-! ### slices -/
def rSl (K : PySem.W.Frag) : V → Option Int → Option Int → Hp → VK → Prop := fun x lo hi H Q => match x with
  | .str z => z.length ≤ sizeLine ∧ Q (.str (Txt.slice z lo hi)) H
  | .ref a => rSlL K (.ref a) lo hi H Q ∨ rSlT K (.ref a) lo hi H Q
  | _ => False
theorem sl_any : SlR X (rSl X.K) := by
  intro pins s σ H x v vl vu lo hi sl Q I rx hs pl pu h
  cases x with
  | str z =>
    obtain ⟨t, rfl⟩ := rx
    obtain ⟨hz, q⟩ := h
    refine ⟨"str", _, F.slot_str_getitem.lookup, typeIs_str _ _ _, ?_⟩
    have fin : ∀ l u : Option (Int × Tok), l.map (·.1) = lo → u.map (·.1) = hi → s.heap.IsSlice sl l u none → wpAny (model X.prog X.w) X.A (getItem (.str z t) (.ref sl)) (EP X pins σ Q) X.xe s := fun l u e1 e2 hsl => by
      refine wpAny_getItem_str_slice hsl rfl ?_
      subst e1 e2
      exact post_val_or_str ⟨Nat.le_trans (Txt.slice_le z _ _) hz, fun t' k => ⟨.str (Txt.slice z _ _), H, I.tok k, ⟨_, rfl⟩, q⟩⟩
    obtain ⟨o, ho, hc, hd⟩ := hs
    cases pl with
    | none =>
      cases pu with
      | none => exact fin none none rfl rfl ⟨o, ho, hc, hd⟩
      | int j tj => exact fin none (some (j, tj)) rfl rfl ⟨o, ho, hc, hd⟩
    | int i ti =>
      cases pu with
      | none => exact fin (some (i, ti)) none rfl rfl ⟨o, ho, hc, hd⟩
      | int j tj => exact fin (some (i, ti)) (some (j, tj)) rfl rfl ⟨o, ho, hc, hd⟩
  | ref a =>
    rcases h with h | h
    · exact sl_list pins s σ H _ v vl vu lo hi sl Q I rx hs pl pu h
    · exact sl_tup pins s σ H _ v vl vu lo hi sl Q I rx hs pl pu h
  | _ => exact False.elim h

/-! ### s.split(sep) -/
theorem vals_strs : ∀ {l : List (Str × Tok)}, Vals (l.map fun p => V.str p.1) (strValues l)
  | [] => .nil
  | p :: r => .cons ⟨p.2, rfl⟩ vals_strs
theorem vals_strs' {l : List (Str × Tok)} {ts : List Str} (e : l.map (·.1) = ts) : Vals (ts.map V.str) (strValues l) := by
  subst e
  rw [List.map_map]
  exact vals_strs
def rSplit : V → List V → Hp → VK → Prop := fun x vs H Q => match x, vs with
  | .str z, [.str y] => z.length ≤ sizeLine ∧ 0 < y.length ∧ (Txt.split z y).length ≤ sizeLine ∧ ∀ p, H p = none → Q (.ref p) (upd H p (.lst ((Txt.split z y).map V.str)))
  | _, _ => False
theorem mt_split : MtR X "str.split" rSplit := by
  intro pins s σ H x xs v us Q I rx rs h
  match x, xs, h with
  | .str z, [.str y], ⟨hz, hy, hn, q⟩ =>
    obtain ⟨t, rfl⟩ := rx
    obtain ⟨u, rfl, t', rfl⟩ := vals1 rs
    have hy' : (y.length == 0) = false := by simp; omega
    cases h1 : (decide (z.length < y.length) || decide (Builtin.Str.strKind z < Builtin.Str.strKind y))
    · cases hf : (Builtin.Str.occurrences z y 0 z.length (z.length + 1)).isEmpty
      · have e : Txt.split z y = Builtin.Str.partsBetween z (Builtin.Str.occurrences z y 0 z.length (z.length + 1)) y.length := (if_neg (ne_true_of_eq_false h1)).trans (if_neg (ne_true_of_eq_false hf))
        rw [e] at hn q
        refine call_meets F.slot_str_split (typeIs_str s z t) F.entry_str_split (F.args_str_split_2 _ _) (meets_str_split_sep z y t t' h1 hy' hf hz hn) ?_
        rw [strsFrom_eq]
        exact ⟨.ref _, _, I.lnew (t' := _) (vals_strs' (numbered_texts _ _)) (by rw [List.length_map]; exact hn), rfl, q _ I.fresh⟩
      · have e : Txt.split z y = [z] := (if_neg (ne_true_of_eq_false h1)).trans (if_pos hf)
        rw [e] at hn q
        refine call_meets F.slot_str_split (typeIs_str s z t) F.entry_str_split (F.args_str_split_2 _ _) (meets_str_split_not_found z y t t' h1 hy' hf) ?_
        exact ⟨.ref _, _, I.lnew (t' := s.toks) (ys := [V.str z]) (its := [.str z t]) (.cons ⟨t, rfl⟩ .nil) hn, rfl, q _ I.fresh⟩
    · have e : Txt.split z y = [z] := if_pos h1
      rw [e] at hn q
      refine call_meets F.slot_str_split (typeIs_str s z t) F.entry_str_split (F.args_str_split_2 _ _) (meets_str_split_cannot_occur z y t t' h1) ?_
      exact ⟨.ref _, _, I.lnew (t' := s.toks) (ys := [V.str z]) (its := [.str z t]) (.cons ⟨t, rfl⟩ .nil) hn, rfl, q _ I.fresh⟩
end
end L2.L3

set_option Elab.async false
set_option linter.all false
set_option maxRecDepth 100000
set_option maxHeartbeats 400000
namespace L2.L3
open PySem PySem.Spec PyProof.Rows

/-! ### the text in short -/
/-- built-in functions and types that are called -/
inductive Bi where
  | len | all | any | int | str
  deriving DecidableEq
/-- methods of built-in values -/
inductive Mt where
  | split | append | find | rstrip
  deriving DecidableEq
/-- what is walked -/
inductive ItK where
  | val | rng1 | rng2
  deriving DecidableEq
/-- what a loop stores into -/
inductive Tg where
  | nm (i : Nat) | tp (is : List Nat)
  deriving DecidableEq
inductive PX where
  | var (i : Nat) | int (i : Int) | str (x : Str) | bl (b : Bool) | non
  | glo (x : Str) | bty (x : Str) (n : String)
  | bin (op : Operator) (a b : PX) | neg (a : PX)
  | cmp (op : CmpOp) (a b : PX) | chn (o p : CmpOp) (a b c : PX)
  | and (a b : PX) | or (a b : PX) | not (a : PX) | ife (c a b : PX)
  | call (f : Str) (as : PX)
  | bi (f : Bi) (as : PX) | isi (a c : PX)
  | mt (m : Mt) (o as : PX)
  | idx (a b : PX) | slc (a lo hi : PX) | nop
  | lst (as : PX) | tup (as : PX)
  | comp (mask : List Bool) (tgs : List Str) (tg : Tg) (ik : ItK) (its cond elt : PX)
  | anil | acons (a as : PX)

/-! ### what it asks -/
/-- what the module gives: the defs' promises, the names' values -/
structure Ev where
  sp : Str → Sp
  va : Str → V
structure W3 where
  e : TE
  t : TT
  a : TA
def never : W3 := ⟨fun _ _ _ => False, fun _ _ _ => False, fun _ _ _ => False⟩
/-- a value's truth -/
def truQ (K : PySem.W.Frag) (x : V) (H : Hp) (Q : Bool → Hp → Prop) : Prop := match x with
  | .bl b => Q b H
  | .int i => Q (i != 0) H
  | .non => Q false H
  | .str z => z.length ≤ sizeLine ∧ Q ((z.length : Int) != 0) H
  | x => ∃ k, TruV K x H k ∧ Q k H
def asB (x : V) (H : Hp) (Q : Bool → Hp → Prop) : Prop := match x with
  | .bl b => Q b H
  | _ => False
def binR (K : PySem.W.Frag) : Operator → R2
  | .Add => rAdd K
  | .Sub => rSub
  | .Mult => rMul K
  | .FloorDiv => rFdiv
  | .Mod => rMod
  | .Pow => rPow
  | _ => fun _ _ _ _ => False
def isNoneR (neg : Bool) : R2 := fun x y H Q => match y with
  | .non => Q (.bl (if neg then !decide (x = .non) else decide (x = .non))) H
  | _ => False
def cmpR (K : PySem.W.Frag) : CmpOp → R2
  | .Eq => rEq K false
  | .NotEq => rEq K true
  | .Lt => rOrd fun i j => decide (i < j)
  | .LtE => rOrd fun i j => decide (i ≤ j)
  | .Gt => rOrd fun i j => decide (j < i)
  | .GtE => rOrd fun i j => decide (j ≤ i)
  | .In => rInU K false
  | .NotIn => rInU K true
  | .Is => isNoneR false
  | .IsNot => isNoneR true
def rIxU (K : PySem.W.Frag) : R2 := fun x y H Q => match x, y with
  | .str z, .int i => z.length ≤ sizeLine ∧ ∃ c, atI z.cps.toList i = some c ∧ Q (.str ⟨#[c]⟩) H
  | .ref a, .int i => ∃ xs v, (SqL K H a xs ∨ SqT K H a xs) ∧ atI xs i = some v ∧ Q v H
  | _, _ => False
/-- int(..), str(..) -/
def rInt : List V → Hp → VK → Prop := fun vs H Q => match vs with
  | [.int i] => Q (.int i) H
  | [.bl b] => Q (.int (if b then 1 else 0)) H
  | [.str z] => z.length ≤ 640 ∧ ∃ n, intText? z = some n ∧ Q (.int n) H
  | _ => False
def rStr : List V → Hp → VK → Prop := fun vs H Q => match vs with
  | [.int i] => i.natAbs.log2 < 1920 ∧ Q (.str (toString i)) H
  | [.str z] => Q (.str z) H
  | _ => False
def biR (K : PySem.W.Frag) : Bi → List V → Hp → VK → Prop
  | .len => rLen K
  | .all => rAll K
  | .any => rAny K
  | .int => rInt
  | .str => rStr
def rAppU : V → List V → Hp → VK → Prop := fun x vs H Q => match x, vs with
  | .ref l, [y] => ∃ xs, H l = some (.lst xs) ∧ xs.length < sizeLine ∧ Q .non (upd H l (.lst (xs ++ [y])))
  | _, _ => False
def rFind : V → List V → Hp → VK → Prop := fun x vs H Q => match x, vs with
  | .str z, [.str y] => Q (.int (Txt.find z y)) H
  | _, _ => False
def rRstrip : V → List V → Hp → VK → Prop := fun x vs H Q => match x, vs with
  | .str z, [] => z.length ≤ sizeLine ∧ Q (.str (Txt.rstrip z)) H
  | _, _ => False
def mtR (K : PySem.W.Frag) : Mt → V → List V → Hp → VK → Prop
  | .split => rSplit
  | .append => rAppU
  | .find => rFind
  | .rstrip => rRstrip
def Mt.ty : Mt → String
  | .split | .find | .rstrip => "str"
  | .append => "list"
/-- a slice's part -/
def partQ (x : V) (H : Hp) (Q : Option Int → Hp → Prop) : Prop := match x with
  | .int i => Q (some i) H
  | _ => False

/-- what is walked, as a list: a value, or a new tuple each time -/
inductive Item where
  | one (v : V) | tup (vs : List V)
def itemsR (K : PySem.W.Frag) : ItK → List V → Hp → (List Item → (Hp → Prop) → Hp → Prop) → Prop
  | .val, [.str z], H, R => R (z.cps.toList.map fun c => .one (.str ⟨#[c]⟩)) (fun _ => True) H
  | .val, [.ref a], H, R => (∃ xs, SqL K H a xs ∧ R (xs.map .one) (fun H => SqL K H a xs) H) ∨ (∃ xs, SqT K H a xs ∧ R (xs.map .one) (fun H => SqT K H a xs) H)
  | .rng1, [.int j], H, R => (-(2 ^ 62) ≤ j ∧ j < 2 ^ 62) ∧ R ((List.range j.toNat).map fun (i : Nat) => .one (.int (i : Int))) (fun _ => True) H
  | .rng2, [.int i, .int j], H, R => (-(2 ^ 62) ≤ i ∧ i < 2 ^ 62 ∧ -(2 ^ 62) ≤ j ∧ j < 2 ^ 62) ∧ R ((List.range (j - i).toNat).map fun (k : Nat) => .one (.int (i + (k : Int)))) (fun _ => True) H
  | _, _, _, _ => False
def setAll : List Nat → List V → St → Option St
  | [], [], σ => some σ
  | i :: is, v :: vs, σ => setAll is vs (σ.set i (some v))
  | _, _, _ => none
def bindT (K : PySem.W.Frag) : Tg → TG
  | .nm i => fun v σ H Q => Q (σ.set i (some v)) H
  | .tp is => fun v σ H Q => match v with
    | .ref p => ∃ xs σ', SqT K H p xs ∧ setAll is xs σ = some σ' ∧ Q σ' H
    | _ => False
def bindI (K : PySem.W.Frag) (tg : Tg) : Item → St → Hp → (St → Hp → Prop) → Prop
  | .one v => bindT K tg v
  | .tup vs => fun σ H Q => match tg with
    | .tp is => ∀ H', Same H H' → ∃ σ', setAll is vs σ = some σ' ∧ Q σ' H'
    | .nm i => ∀ p, H p = none → Q (σ.set i (some (.ref p))) (upd H p (.tup vs))
def compR (K : PySem.W.Frag) (xs : List Item) (st : Hp → Prop) (bind : Item → St → Hp → (St → Hp → Prop) → Prop) (tc : TT) (te : TE) (σ : St) (H : Hp) (Q : VK) : Prop :=
  ∃ W : Nat → List V → Hp → Prop, W 0 [] H ∧ (∀ i acc H, i ≤ xs.length → W i acc H → st H) ∧
    (∀ i x acc H, xs[i]? = some x → W i acc H → bind x σ H fun σ2 H2 => tc σ2 H2 fun b H3 => if b = true then te σ2 H3 fun y H4 => acc.length < sizeLine ∧ W (i + 1) (acc ++ [y]) H4 else W (i + 1) acc H3) ∧
    ∀ acc H2, W xs.length acc H2 → acc.length ≤ sizeLine ∧ ∀ p, H2 p = none → Q (.ref p) (upd H2 p (.lst acc))

/-- the iterator J gives these, as long as st holds -/
structure Yields (J : It) (xs : List Item) (st : Hp → Prop) : Prop where
  go : ∀ i H, st H → i < xs.length → J.go i H
  yld : ∀ i H x H', st H → i < xs.length → J.yld i H x H' → ∃ it, xs[i]? = some it ∧ match it with
    | .one v => x = v ∧ H' = H
    | .tup vs => ∃ p, H p = none ∧ x = .ref p ∧ H' = upd H p (.tup vs)
  stop : ∀ i H, st H → xs.length ≤ i → J.stop i H
def compJ (J : It) (g : TG) (tc : TT) (te : TE) (σ0 : St) (H1 : Hp) (Q : VK) : Prop := ∃ W : Nat → Nat → List V → St → Hp → Prop, (∃ m, W 0 m [] σ0 H1) ∧
  ∀ i m acc σ' H', W i m acc σ' H' → (J.stop i H' ∧ acc.length ≤ sizeLine ∧ ∀ p, H' p = none → Q (.ref p) (upd H' p (.lst acc))) ∨
    (J.go i H' ∧ ∀ x H2, J.yld i H' x H2 → g x σ' H2 fun σ3 H3 => tc σ3 H3 fun b H4 => if b = true then te σ3 H4 fun y H5 => acc.length < sizeLine ∧ ∃ m', m' < m ∧ W (i + 1) m' (acc ++ [y]) σ3 H5 else ∃ m', m' < m ∧ W (i + 1) m' acc σ3 H4)
def CompB (K : PySem.W.Frag) (xs : List Item) (st : Hp → Prop) (tg : Tg) (tc : TT) (te : TE) (σ0 : St) (H : Hp) (Q : VK) : Prop := ∀ J, Yields J xs st → compJ J (bindT K tg) tc te σ0 H Q
def isNop : PX → Bool
  | .nop => true
  | _ => false
def wp (K : PySem.W.Frag) (Γ : Ev) : PX → XK → W3
  | .var i, E => let e : TE := fun σ H Q => match σ[i]? with
      | some (some v) => Q v H
      | _ => False
    ⟨e, fun σ H Q => e σ H fun x H1 => truQ K x H1 Q, never.a⟩
  | .int i, E => ⟨fun _ H Q => Q (.int i) H, fun _ H Q => Q (i != 0) H, never.a⟩
  | .str x, E => ⟨fun _ H Q => Q (.str x) H, never.t, never.a⟩
  | .bl b, E => ⟨fun _ H Q => Q (.bl b) H, fun _ H Q => Q b H, never.a⟩
  | .non, E => ⟨fun _ H Q => Q .non H, fun _ H Q => Q false H, never.a⟩
  | .glo x, E => ⟨fun _ H Q => Q (Γ.va x) H, fun _ H Q => truQ K (Γ.va x) H Q, never.a⟩
  | .bty _ n, E => ⟨fun _ H Q => Q (.ty n) H, never.t, never.a⟩
  | .bin op a b, E => let e : TE := fun σ H Q => (wp K Γ a E).e σ H fun x H1 => (wp K Γ b E).e σ H1 fun y H2 => binR K op x y H2 Q
    ⟨e, fun σ H Q => e σ H fun x H1 => truQ K x H1 Q, never.a⟩
  | .neg a, E => ⟨fun σ H Q => (wp K Γ a E).e σ H fun x H1 => match x with
      | .int i => Q (.int (-i)) H1
      | _ => False, never.t, never.a⟩
  | .cmp op a b, E => let e : TE := fun σ H Q => (wp K Γ a E).e σ H fun x H1 => (wp K Γ b E).e σ H1 fun y H2 => cmpR K op x y H2 Q
    ⟨e, fun σ H Q => e σ H fun x H1 => asB x H1 Q, never.a⟩
  | .chn o p a b c, E => let e : TE := fun σ H Q => (wp K Γ a E).e σ H fun x H1 => (wp K Γ b E).e σ H1 fun y H2 => cmpR K o x y H2 fun z H3 => asB z H3 fun k H4 => if k = true then (wp K Γ c E).e σ H4 fun w' H5 => cmpR K p y w' H5 Q else Q (.bl false) H4
    ⟨e, fun σ H Q => e σ H fun x H1 => asB x H1 Q, never.a⟩
  | .and a b, E => ⟨fun σ H Q => (wp K Γ a E).e σ H fun x H1 => asB x H1 fun c H2 => if c = true then (wp K Γ b E).e σ H2 Q else Q (.bl false) H2,
      fun σ H Q => (wp K Γ a E).t σ H fun c H1 => if c = true then (wp K Γ b E).t σ H1 Q else Q false H1, never.a⟩
  | .or a b, E => ⟨fun σ H Q => (wp K Γ a E).e σ H fun x H1 => asB x H1 fun c H2 => if c = true then Q (.bl true) H2 else (wp K Γ b E).e σ H2 Q,
      fun σ H Q => (wp K Γ a E).t σ H fun c H1 => if c = true then Q true H1 else (wp K Γ b E).t σ H1 Q, never.a⟩
  | .not a, E => ⟨fun σ H Q => (wp K Γ a E).e σ H fun x H1 => truQ K x H1 fun c H2 => Q (.bl (!c)) H2, fun σ H Q => (wp K Γ a E).t σ H fun c H1 => Q (!c) H1, never.a⟩
  | .ife c a b, E => ⟨fun σ H Q => (wp K Γ c E).t σ H fun k H1 => if k = true then (wp K Γ a E).e σ H1 Q else (wp K Γ b E).e σ H1 Q, never.t, never.a⟩
  | .call f as, E => let e : TE := fun σ H Q => (wp K Γ as E).a σ H fun vs H1 => Γ.sp f vs H1 Q E
    ⟨e, fun σ H Q => e σ H fun x H1 => truQ K x H1 Q, never.a⟩
  | .bi f as, E => let e : TE := fun σ H Q => (wp K Γ as E).a σ H fun vs H1 => biR K f vs H1 Q
    ⟨e, fun σ H Q => e σ H fun x H1 => truQ K x H1 Q, never.a⟩
  | .isi a c, E => let e : TE := fun σ H Q => (wp K Γ a E).e σ H fun x H1 => (wp K Γ c E).e σ H1 fun y H2 => rIsI K [x, y] H2 Q
    ⟨e, fun σ H Q => e σ H fun x H1 => truQ K x H1 Q, never.a⟩
  | .mt m o as, E => let e : TE := fun σ H Q => (wp K Γ o E).e σ H fun x H1 => tyV K m.ty x H1 ∧ (wp K Γ as E).a σ H1 fun vs H2 => mtR K m x vs H2 Q
    ⟨e, fun σ H Q => e σ H fun x H1 => truQ K x H1 Q, never.a⟩
  | .idx a b, E => let e : TE := fun σ H Q => (wp K Γ a E).e σ H fun x H1 => (wp K Γ b E).e σ H1 fun y H2 => rIxU K x y H2 Q
    ⟨e, fun σ H Q => e σ H fun x H1 => truQ K x H1 Q, never.a⟩
  | .slc a lo hi, E => ⟨fun σ H Q => (wp K Γ a E).e σ H fun x H1 =>
      (if isNop lo = true then fun (R : Option Int → Hp → Prop) => R none H1 else fun R => (wp K Γ lo E).e σ H1 fun l H2 => partQ l H2 R) fun l H2 =>
      (if isNop hi = true then fun (R : Option Int → Hp → Prop) => R none H2 else fun R => (wp K Γ hi E).e σ H2 fun u H3 => partQ u H3 R) fun u H3 => rSl K x l u H3 Q, never.t, never.a⟩
  | .nop, E => never
  | .lst as, E => ⟨fun σ H Q => (wp K Γ as E).a σ H fun xs H1 => xs.length ≤ sizeLine ∧ ∀ p, H1 p = none → Q (.ref p) (upd H1 p (.lst xs)), never.t, never.a⟩
  | .tup as, E => ⟨fun σ H Q => (wp K Γ as E).a σ H fun xs H1 => xs.length ≤ sizeLine ∧ ∀ p, H1 p = none → Q (.ref p) (upd H1 p (.tup xs)), never.t, never.a⟩
  | .comp mask tgs tg ik its cond elt, E => ⟨fun σ H Q => (wp K Γ its E).a σ H fun vs H1 => itemsR K ik vs H1 fun xs st H2 =>
      CompB K xs st tg (if isNop cond = true then fun _ H Q => Q true H else (wp K Γ cond (fun _ _ _ => False)).t) (wp K Γ elt (fun _ _ _ => False)).e (entS tgs.length mask σ) H2 Q, never.t, never.a⟩
  | .anil, E => ⟨never.e, never.t, fun _ H Q => Q [] H⟩
  | .acons a as, E => ⟨never.e, never.t, fun σ H Q => (wp K Γ a E).e σ H fun x H1 => (wp K Γ as E).a σ H1 fun xs H2 => Q (x :: xs) H2⟩

/-- what is asked of the module -/
structure Glob where
  ev : Ev
  fn : Str → Prop
  val : Str → Prop
  no : Str → Prop
def Bi.nm : Bi → Str
  | .len => "len"
  | .all => "all"
  | .any => "any"
  | .int => "int"
  | .str => "str"
def Mt.nm : Mt → Str
  | .split => "split"
  | .append => "append"
  | .find => "find"
  | .rstrip => "rstrip"
def ikN (G : Glob) : ItK → Prop
  | .val => True
  | .rng1 | .rng2 => G.no "range"
def needs (G : Glob) : PX → Prop
  | .glo x => G.val x
  | .bty x n => G.no x ∧ bootBuiltins x = some (.type n)
  | .bin _ a b | .cmp _ a b | .and a b | .or a b | .idx a b | .acons a b => needs G a ∧ needs G b
  | .neg a | .not a | .lst a | .tup a => needs G a
  | .chn _ _ a b c | .ife a b c | .slc a b c => needs G a ∧ needs G b ∧ needs G c
  | .call f as => G.fn f ∧ needs G as
  | .bi f as => G.no f.nm ∧ needs G as
  | .isi a c => G.no "isinstance" ∧ needs G a ∧ needs G c
  | .mt _ o as => needs G o ∧ needs G as
  | .comp _ _ _ ik its cond elt => ikN G ik ∧ needs G its ∧ needs G cond ∧ needs G elt
  | _ => True

/-! ### does a text say that -/
structure SC where
  N : List Str
  sc : Scope
def notStar : Expr → Bool
  | .Starred _ _ => false
  | _ => true
def visB (S : SC) (i : Nat) (x : Str) : Bool :=
  S.N[i]? == some x && (S.sc.names.lookup x == some .local || S.sc.names.lookup x == some .cell || S.sc.names.lookup x == some .free) && x != "__debug__" && x != "__classdict__"
def locB (S : SC) (i : Nat) (x : Str) : Bool := S.N[i]? == some x && S.sc.names.lookup x == some .local
def gloB (S : SC) (x : Str) : Bool := S.sc.names.lookup x == some .globalImplicit && x != "__debug__" && x != "__name__"
def compS (S : SC) (scope : Scope) (tgs : List Str) (mask : List Bool) : SC := ⟨tgs ++ hideN mask 0 S.N, relabelS scope S.sc⟩
def nodupB : List Str → Bool
  | [] => true
  | x :: r => !r.contains x && nodupB r
def compB (S : SC) (scope : Scope) (tgs : List Str) (mask : List Bool) : Bool :=
  scope.kind == .function && scope.names.all (fun y => y.2 != .cell && (y.2 != .local || (scope.names.lookup y.1 == some .local && (tgs.contains y.1 || y.1 == (".0" : Str)))) &&
    (y.2 != .free || S.sc.names.lookup y.1 == some .cell || S.sc.names.lookup y.1 == some .free)) && nodupB (tgs ++ hideN mask 0 S.N) && !(tgs ++ hideN mask 0 S.N).contains (".0" : Str)
def tgB (S : SC) : Tg → Expr → Bool
  | .nm i, .Name x _ => locB S i x
  | .tp is, .Tuple es _ _ => is.length == es.length && (is.zip es).all fun p => match p.2 with
    | .Name x _ => locB S p.1 x
    | _ => false
  | _, _ => false
def noSuper : Expr → Bool
  | .Call (.Name _ _) [] [] _ => false
  | _ => true
def noSet : Expr → Bool
  | .Set _ _ _ => false
  | _ => true
def noSlice : Expr → Bool
  | .Slice _ _ _ _ => false
  | _ => true
def nm? : Expr → Option Str
  | .Name x _ => some x
  | _ => none
def isArgs : PX → Bool
  | .anil => true
  | .acons _ r => isArgs r
  | _ => false
def chk : PX → SC → Expr → Bool
  | .var i, S, e => match e with | .Name x _ => visB S i x | _ => false
  | .int i, _, e => match e with | .Constant (.int j) _ _ => i == j | _ => false
  | .str x, _, e => match e with | .Constant (.str y) _ _ => x == y | _ => false
  | .bl b, _, e => match e with | .Constant (.bool c) _ _ => b == c | _ => false
  | .non, _, e => match e with | .Constant .none _ _ => true | _ => false
  | .glo x, S, e => match e with | .Name y _ => x == y && gloB S x | _ => false
  | .bty x _, S, e => match e with | .Name y _ => x == y && gloB S x | _ => false
  | .bin op a b, S, e => match e with | .BinOp l o r _ => op == o && chk a S l && chk b S r | _ => false
  | .neg a, S, e => match e with | .UnaryOp .USub e _ => chk a S e | _ => false
  | .cmp op a b, S, e => match e with | .Compare l [o] [r] _ => op == o && noSet r && chk a S l && chk b S r | _ => false
  | .chn o p a b c, S, e => match e with | .Compare l [o', p'] [r, q] _ => o == o' && p == p' && noSet q && chk a S l && chk b S r && chk c S q | _ => false
  | .and a b, S, e => match e with
    | .BoolOp .And [l, r] _ => chk a S l && chk b S r
    | .BoolOp .And (l :: r :: q :: rest) pos => chk a S l && chk b S (.BoolOp .And (r :: q :: rest) pos)
    | _ => false
  | .or a b, S, e => match e with
    | .BoolOp .Or [l, r] _ => chk a S l && chk b S r
    | .BoolOp .Or (l :: r :: q :: rest) pos => chk a S l && chk b S (.BoolOp .Or (r :: q :: rest) pos)
    | _ => false
  | .not a, S, e => match e with | .UnaryOp .Not e _ => chk a S e | _ => false
  | .ife c a b, S, e => match e with | .IfExp t l r _ => chk c S t && chk a S l && chk b S r | _ => false
  | .call f as, S, e => match e with | .Call (.Name x _) es [] pos => f == x && gloB S x && chk as S (.List es pos) | _ => false
  | .bi f as, S, e => match e with | .Call (.Name x _) (e :: es) [] pos => f.nm == x && gloB S x && chk as S (.List (e :: es) pos) | _ => false
  | .isi a c, S, e => match e with | .Call (.Name x _) [l, r] [] pos => x == ("isinstance" : Str) && gloB S x && notStar l && notStar r && chk a S l && chk c S r | _ => false
  | .mt m o as, S, e => match e with
    | .Call (.Attribute v n ap) es [] cp => isArgs as && m.nm == n && ap.endLine == cp.line && noSuper v && decide (es.length < 20) && chk o S v && chk as S (.List es cp)
    | _ => false
  | .idx a b, S, e => match e with | .Subscript v i _ => noSlice i && chk a S v && chk b S i | _ => false
  | .slc a lo hi, S, e => match e with
    | .Subscript v (.Slice l h none _) _ => chk a S v && (match l with | none => isNop lo | some e => !isNop lo && chk lo S e) && (match h with | none => isNop hi | some e => !isNop hi && chk hi S e)
    | _ => false
  | .nop, _, _ => false
  | .lst as, S, e => match e with | .List es pos => chk as S (.List es pos) | _ => false
  | .tup as, S, e => match e with | .Tuple es _ pos => chk as S (.List es pos) | _ => false
  | .comp mask tgs tg ik its cond elt, S, e => match e with
    | .ListComp e [⟨t, it, ifs, 0⟩] scope pos => compB S scope tgs mask && tgB (compS S scope tgs mask) tg t && noSet it &&
      (match ik with
        | .val => isArgs its && chk its S (.List [it] pos)
        | .rng1 => (match it with | .Call (.Name x _) [a] [] p => x == ("range" : Str) && gloB S x && chk its S (.List [a] p) | _ => false)
        | .rng2 => (match it with | .Call (.Name x _) [a, b] [] p => x == ("range" : Str) && gloB S x && chk its S (.List [a, b] p) | _ => false)) &&
      (match ifs with
        | [] => isNop cond
        | [c] => !isNop cond && chk cond (compS S scope tgs mask) c
        | _ => false) && chk elt (compS S scope tgs mask) e
    | _ => false
  | .anil, _, e => match e with | .List [] _ => true | _ => false
  | .acons a as, S, e => match e with | .List (e :: es) pos => notStar e && chk a S e && chk as S (.List es pos) | _ => false
end L2.L3

set_option Elab.async false
set_option linter.all false
set_option maxRecDepth 100000
set_option maxHeartbeats 400000
namespace L2.L3
open PySem PySem.Spec PyProof.Rows
variable {Γ : Ev}

theorem asB_eq (x : V) (H : Hp) (Q : Bool → Hp → Prop) : asB x H Q = ∃ k, x = .bl k ∧ Q k H := by
  apply propext
  cases x with
  | bl b => exact ⟨fun h => ⟨b, rfl, h⟩, fun ⟨k, e, h⟩ => by cases e; exact h⟩
  | _ => exact ⟨fun h => False.elim h, fun ⟨k, e, h⟩ => by cases e⟩
theorem partQ_eq (x : V) (H : Hp) (Q : Option Int → Hp → Prop) : partQ x H Q = ∃ i, x = .int i ∧ Q (some i) H := by
  apply propext
  cases x with
  | int b => exact ⟨fun h => ⟨b, rfl, h⟩, fun ⟨k, e, h⟩ => by cases e; exact h⟩
  | _ => exact ⟨fun h => False.elim h, fun ⟨k, e, h⟩ => by cases e⟩
theorem truQ_eq (K : PySem.W.Frag) (x : V) (H : Hp) (Q : Bool → Hp → Prop) : truQ K x H Q = ∃ k, TruV K x H k ∧ Q k H := by
  apply propext
  cases x with
  | bl b => exact ⟨fun h => ⟨b, rfl, h⟩, fun ⟨k, (e : k = b), h⟩ => by subst e; exact h⟩
  | int i => exact ⟨fun h => ⟨i != 0, rfl, h⟩, fun ⟨k, (e : k = (i != 0)), h⟩ => by subst e; exact h⟩
  | non => exact ⟨fun h => ⟨false, rfl, h⟩, fun ⟨k, (e : k = false), h⟩ => by subst e; exact h⟩
  | str z => exact ⟨fun h => ⟨_, ⟨h.1, rfl⟩, h.2⟩, fun ⟨k, ⟨e1, e2⟩, h⟩ => by subst e2; exact ⟨e1, h⟩⟩
  | _ => exact Iff.rfl
section
variable {X : Cx}
theorem pe_never {e : Expr} : PE X e never.e := fun _ _ _ _ _ _ h => False.elim h
theorem pt_never {e : Expr} : PT X e never.t := fun _ _ _ _ _ _ h => False.elim h
theorem pw_never {e : Expr} : PW X e never.t := fun _ _ _ _ _ _ _ h => False.elim h
theorem pa_never {es : List Expr} : PA X es never.a := fun _ _ _ _ _ _ _ h => False.elim h
theorem pt_tru {a : Expr} {ta : TE} (ha : PE X a ta) (he : ∀ whole, isTrue a X.env whole = (do let v ← whole; standAt a.pos; holding [v] (truthy v))) :
    PT X a (fun σ H Q => ta σ H fun x H' => truQ X.K x H' Q) := by
  intro pins s σ H Q I h
  refine isTrue_plain (thn (ha pins s σ H _ I h) fun v s1 ⟨x, H1, I1, r1, q1⟩ => ?_) (he _)
  have q1 : truQ X.K x H1 Q := q1
  rw [truQ_eq] at q1
  exact tru_ok pins s1 σ H1 x v Q I1 r1 q1
theorem op_never {f : Value → Value → Sem Value} : OpR X f (fun _ _ _ _ => False) := fun _ _ _ _ _ _ _ _ _ _ _ _ h => h.elim
theorem op_bin (op : Operator) : OpR X (binaryOp op) (binR X.K op) := by
  cases op with
  | Add => exact op_add
  | Sub => exact op_sub
  | Mult => exact op_mul
  | FloorDiv => exact op_fdiv
  | Mod => exact op_mod
  | Pow => exact op_pow
  | _ => exact op_never
theorem op_cmp (hu : X.A.units + 66 < cLine) (op : CmpOp) : OpR X (compareOp op) (cmpR X.K op) := by
  cases op with
  | Eq => exact op_eq (by omega)
  | NotEq => exact op_ne (by omega)
  | Lt => exact op_ord _root_.L2.op_lt
  | LtE => exact op_ord _root_.L2.op_le
  | Gt => exact op_ord _root_.L2.op_gt
  | GtE => exact op_ord _root_.L2.op_ge
  | In => exact op_in hu
  | NotIn => exact op_notin hu
  | Is =>
    intro pins s σ H x y v u Q I rx ry h
    cases y with
    | non => exact op_isN pins s σ H x _ v u Q I rx ry ⟨rfl, h⟩
    | _ => exact False.elim h
  | IsNot =>
    intro pins s σ H x y v u Q I rx ry h
    cases y with
    | non => exact op_notN pins s σ H x _ v u Q I rx ry ⟨rfl, h⟩
    | _ => exact False.elim h
theorem ix_any : IxR X (rIxU X.K) := by
  intro value slice pins s σ H x y v u Q I rx ry h hs
  refine ix_seq value slice pins s σ H x y v u Q I rx ry ?_ hs
  cases x with
  | str z =>
    cases y with
    | int i => obtain ⟨h1, c, h2, q⟩ := h; exact .inr (.inr ⟨z, i, c, rfl, rfl, h1, h2, q⟩)
    | _ => exact False.elim h
  | ref a =>
    cases y with
    | int i =>
      obtain ⟨xs, w', hq, h2, q⟩ := h
      rcases hq with hq | hq
      · exact .inl ⟨a, xs, i, w', rfl, rfl, hq, h2, q⟩
      · exact .inr (.inl ⟨a, xs, i, w', rfl, rfl, hq, h2, q⟩)
    | _ => exact False.elim h
  | _ => exact False.elim h
theorem noMark {op : CmpOp} {b : Expr} (h : noSet b = true) : behindInMarks op b = false := by
  cases b <;> first | rfl | cases h
theorem plainIx {b : Expr} (h : noSlice b = true) : PlainIx b := by
  intro o i
  cases b <;> first | rfl | cases h
theorem star_cons {e : Expr} {es : List Expr} (env : Env) (h : notStar e = true) : starEach (e :: es) env = (false, eval e env) :: starEach es env := by
  cases e <;> first | rfl | cases h
theorem noFold {e : Expr} {env : Env} (h : noSet e = true) (x : Value) : foldedSetIterable e env x = pure x := by
  cases e <;> first | rfl | cases h
theorem noSup {o : Expr} {n : Str} {env : Env} (h : noSuper o = true) : attributeBase o n env (eval o env) = eval o env := by
  unfold attributeBase
  split
  · cases h
  · rfl
theorem mt_appU : MtR X "list.append" rAppU := by
  intro pins s σ H x xs v us Q I rx rs h
  match x, xs, h with
  | .ref l, [y], ⟨xs, hH, hz, q⟩ => exact mt_append pins s σ H _ _ v us Q I rx rs ⟨l, xs, y, rfl, rfl, hH, hz, q⟩
theorem mt_find : MtR X "str.find" rFind := by
  intro pins s σ H x xs v us Q I rx rs h
  match x, xs, h with
  | .str z, [.str y], h =>
    obtain ⟨t, rfl⟩ := rx
    obtain ⟨u, rfl, t', rfl⟩ := vals1 rs
    exact SC.find ⟨.int _, H, I.tok _, ⟨_, rfl⟩, h⟩
theorem mt_rstrip : MtR X "str.rstrip" rRstrip := by
  intro pins s σ H x xs v us Q I rx rs h
  match x, xs, h with
  | .str z, [], h =>
    obtain ⟨t, rfl⟩ := rx
    cases rs
    exact SC.rstrip (fun t' k => ⟨.str _, H, I.tok _, ⟨_, rfl⟩, h.2⟩) h.1
theorem call_int : CallR X (.type "int") rInt := by
  intro pins s σ H xs us Q I r h
  match xs, h with
  | [.int i], h => exact call_int1 pins s σ H _ us Q I r (.inl ⟨i, rfl, h⟩)
  | [.bl b], h => exact call_int1 pins s σ H _ us Q I r (.inr ⟨b, rfl, h⟩)
  | [.str z], ⟨hl, n, hn, q⟩ =>
    obtain ⟨u, rfl, t, rfl⟩ := vals1 r
    exact PySem.W.KIN.call_text hn hl ⟨.int n, H, I.tok _, ⟨_, rfl⟩, q⟩
theorem call_str : CallR X (.type "str") rStr := by
  intro pins s σ H xs us Q I r h
  match xs, h with
  | [.int i], h => exact call_str_int pins s σ H _ us Q I r ⟨i, rfl, h⟩
  | [.str z], h =>
    obtain ⟨u, rfl, t, rfl⟩ := vals1 r
    exact PySem.P.str_of_str ⟨.str z, H, I, ⟨_, rfl⟩, h⟩
theorem bi_ok (hc : X.calm = true) (f : Bi) : (∃ id, bootBuiltins f.nm = some (.builtin id) ∧ CallR X (.builtin id) (biR X.K f)) ∨ ∃ T, bootBuiltins f.nm = some (.type T) ∧ CallR X (.type T) (biR X.K f) := by
  cases f with
  | len => exact .inl ⟨_, PySem.boot_len, call_len⟩
  | all => exact .inl ⟨_, PyProof.Rows.boot_all, call_all hc⟩
  | any => exact .inl ⟨_, PyProof.Rows.boot_any, call_any hc⟩
  | int => exact .inr ⟨_, PyProof.Rows.boot_int, call_int⟩
  | str => exact .inr ⟨_, PyProof.Rows.boot_str, call_str⟩
end
end L2.L3

set_option Elab.async false
set_option linter.all false
set_option maxRecDepth 100000
set_option maxHeartbeats 400000
namespace L2.L3
open PySem PySem.Spec PyProof.Rows

/-- what the module keeps, for the code that runs in X -/
structure OkX (X : Cx) (S : SC) (G : Glob) (E : XK) : Prop where
  N : X.N = S.N
  sc : X.env.scope = S.sc
  calm : X.calm = true
  un : X.A.units + 66 < cLine
  fn : ∀ f, G.fn f → ∃ (CX : CXT) (k : Nat) (a : Addr) (fd : FuncData) (ps : List Str), FnOk X.prog X.w X.K X.mg X.base CX k a fd ps (G.ev.sp f) ∧ Room k X.A ∧ X.mg f = some (.ref a) ∧ PySem.W.keepIn X.K (.ref a) = true ∧ Binds X.K fd ps [] ∧
    Passes CX X E ∧ ∀ l H s e s', CX l H s (fun _ _ _ => False) e s' → False
  val : ∀ x, G.val x → ∃ u, X.mg x = some u ∧ RelV (G.ev.va x) u
  no : ∀ x, G.no x → X.mg x = none
def ArgsPE (X : Cx) (Γ : Ev) (E : XK) : PX → List Expr → Prop
  | .acons a as, e :: es => PE X e (wp X.K Γ a E).e ∧ ArgsPE X Γ E as es
  | _, _ => True
structure Snd (X : Cx) (Γ : Ev) (E : XK) (p : PX) (e : Expr) : Prop where
  pe : PE X e (wp X.K Γ p E).e
  pt : PT X e (wp X.K Γ p E).t
  pw : ∀ op es pos, e = .BoolOp op es pos → PW X e (wp X.K Γ p E).t
  pa : ∀ es pos, e = .List es pos → PA X es (wp X.K Γ p E).a
  pas : ∀ es pos, e = .List es pos → ArgsPE X Γ E p es

theorem lookup_beq {l : List (Str × NameKind)} {x : Str} {k : NameKind} (h : (l.lookup x == some k) = true) : l.lookup x = some k := by simpa using h
theorem visB_ok {S : SC} {i : Nat} {x : Str} (h : visB S i x = true) : S.N[i]? = some x ∧ Vis S.sc x ∧ (x == ("__debug__" : Str)) = false ∧ (x == ("__classdict__" : Str)) = false := by
  simp only [visB, Bool.and_eq_true, Bool.or_eq_true, beq_iff_eq, bne_iff_ne, ne_eq] at h
  obtain ⟨⟨⟨h1, h2⟩, h3⟩, h4⟩ := h
  refine ⟨h1, ?_, by simpa using h3, by simpa using h4⟩
  rcases h2 with (h2 | h2) | h2
  · exact .inl h2
  · exact .inr (.inl h2)
  · exact .inr (.inr h2)
theorem locB_ok {S : SC} {i : Nat} {x : Str} (h : locB S i x = true) : S.N[i]? = some x ∧ S.sc.names.lookup x = some .local := by
  simp only [locB, Bool.and_eq_true, beq_iff_eq] at h
  exact h
theorem gloB_ok {S : SC} {x : Str} (h : gloB S x = true) : S.sc.names.lookup x = some .globalImplicit ∧ (x == ("__debug__" : Str)) = false ∧ x ≠ "__name__" := by
  simp only [gloB, Bool.and_eq_true, beq_iff_eq, bne_iff_ne, ne_eq] at h
  exact ⟨h.1.1, by simpa using h.1.2, h.2⟩
theorem nodupB_ok : ∀ {l : List Str}, nodupB l = true → l.Nodup
  | [], _ => List.nodup_nil
  | x :: r, h => by
    simp only [nodupB, Bool.and_eq_true, Bool.not_eq_true'] at h
    exact List.nodup_cons.mpr ⟨by simpa using h.1, nodupB_ok h.2⟩
theorem compB_ok {S : SC} {scope : Scope} {tgs : List Str} {mask : List Bool} (h : compB S scope tgs mask = true) : CompSt S.N S.sc scope tgs mask := by
  simp only [compB, Bool.and_eq_true, List.all_eq_true, beq_iff_eq, Bool.not_eq_true'] at h
  obtain ⟨⟨⟨h1, h2⟩, h3⟩, h4⟩ := h
  refine ⟨h1, fun y hy e => ?_, fun y hy e => ?_, fun y hy e => ?_, fun y hy e => ?_, nodupB_ok h3, by simpa using h4⟩
  · have := (h2 y hy).1.1
    rw [e] at this
    exact absurd this (by decide)
  · have := (h2 y hy).1.2
    rw [e] at this
    simp at this
    exact this.1
  · have := (h2 y hy).2
    rw [e] at this
    simp at this
    exact this
  · have := (h2 y hy).1.2
    rw [e] at this
    simp at this
    exact this.2
theorem OkX.comp {X : Cx} {S : SC} {G : Glob} {E : XK} (ok : OkX X S G E) (scope : Scope) (tgs : List Str) (mask : List Bool) (s : Shared) (H : Hp) (ex : List Addr) : OkX (cxComp X scope tgs mask s H ex) (compS S scope tgs mask) G (fun _ _ _ => False) where
  N := by show tgs ++ hideN mask 0 X.N = tgs ++ hideN mask 0 S.N; rw [ok.N]
  sc := by show relabelS scope X.env.scope = relabelS scope S.sc; rw [ok.sc]
  calm := ok.calm
  un := ok.un
  fn := fun f h => by
    obtain ⟨CX, k, a, fd, ps, h1, h2, h3, h4, h5, h6, h7⟩ := ok.fn f h
    exact ⟨CX, k, a, fd, ps, h1, h2, h3, h4, h5, fun _ _ _ _ _ _ _ z => (h7 _ _ _ _ _ z).elim, h7⟩
  val := ok.val
  no := ok.no

section
variable {X : Cx}
/-- targets -/
theorem setAll_ok {S : SC} (hN : X.N = S.N) (hsc : X.env.scope = S.sc) (nd : X.N.Nodup) : ∀ (is : List Nat) (es : List Expr), is.length = es.length → ((is.zip es).all fun p => match p.2 with | .Name x _ => locB S p.1 x | _ => false) = true →
    PGs X es (fun vs σ H Q => ∃ σ', setAll is vs σ = some σ' ∧ Q σ' H)
  | [], [], _, _ => by
    intro pins s σ H vs us Q I r h
    obtain ⟨σ', e, q⟩ := h
    cases vs with
    | nil =>
      cases r
      simp only [setAll] at e
      cases e
      exact assignInOrder_nil ⟨σ, H, I, q⟩
    | cons _ _ => simp [setAll] at e
  | [], _ :: _, h, _ => by cases h
  | _ :: _, [], h, _ => by cases h
  | i :: is, e :: es, hl, hz => by
    simp only [List.zip_cons_cons, List.all_cons, Bool.and_eq_true] at hz
    obtain ⟨h1, h2⟩ := hz
    cases e with
    | Name x pos =>
      obtain ⟨g1, g2⟩ := locB_ok h1
      have g1' : X.N[i]? = some x := by rw [hN]; exact g1
      have g2' : X.env.scope.names.lookup x = some .local := by rw [hsc]; exact g2
      have ih := setAll_ok hN hsc nd is es (by simpa using hl) h2
      intro pins s σ H vs us Q I r h
      obtain ⟨σ', e, q⟩ := h
      cases vs with
      | nil => simp [setAll] at e
      | cons v vs =>
        simp only [setAll] at e
        cases r with
        | cons r rr =>
          show wpAny _ _ (assignInOrder (assign (.Name x pos) X.env :: (assignEach es X.env).map (·.2)) _) _ _ _
          refine assignInOrder_cons (thn (pg_name (pos := pos) nd g1' (.inl g2') (.inr g2') pins s σ H v _ _ I r (show gName i v σ H (fun σ1 H1 => σ1 = σ.set i (some v) ∧ H1 = H) from ⟨rfl, rfl⟩)) fun _ s1 ⟨σ1, H1, I1, e1, e2⟩ => ?_)
          subst e1 e2
          exact ih pins s1 _ _ vs _ Q I1 rr ⟨σ', e, q⟩
    | _ => simp at h1
theorem len_each : ∀ (is : List Nat) (es : List Expr) (S : SC), is.length = es.length → ((is.zip es).all fun p => match p.2 with | .Name x _ => locB S p.1 x | _ => false) = true → (assignEach es X.env).length = es.length ∧ (assignEach es X.env).findIdx? (·.1) = none
  | [], [], _, _, _ => ⟨rfl, rfl⟩
  | [], _ :: _, _, h, _ => by cases h
  | _ :: _, [], _, h, _ => by cases h
  | i :: is, e :: es, S, hl, hz => by
    simp only [List.zip_cons_cons, List.all_cons, Bool.and_eq_true] at hz
    obtain ⟨h1, h2⟩ := hz
    cases e with
    | Name x pos =>
      have ih := len_each is es S (by simpa using hl) h2
      have e1 : assignEach (.Name x pos :: es) X.env = (false, assign (.Name x pos) X.env) :: assignEach es X.env := rfl
      rw [e1]
      refine ⟨by rw [List.length_cons, List.length_cons, ih.1], ?_⟩
      rw [List.findIdx?_cons]
      simp [ih.2]
    | _ => simp at h1
theorem setAll_len : ∀ {is : List Nat} {vs : List V} {σ σ' : St}, setAll is vs σ = some σ' → vs.length = is.length
  | [], [], _, _, _ => rfl
  | [], _ :: _, _, _, h => by simp [setAll] at h
  | _ :: _, [], _, _, h => by simp [setAll] at h
  | _ :: is, _ :: vs, σ, σ', h => by
    simp only [setAll] at h
    rw [List.length_cons, List.length_cons, setAll_len h]
theorem pg_tg {S : SC} {G : Glob} {E : XK} (ok : OkX X S G E) (nd : X.N.Nodup) {tg : Tg} {e : Expr} (h : tgB S tg e = true) : PG X e (bindT X.K tg) := by
  cases tg with
  | nm i =>
    cases e with
    | Name x pos =>
      obtain ⟨g1, g2⟩ := locB_ok h
      have g1' : X.N[i]? = some x := by rw [ok.N]; exact g1
      have g2' : X.env.scope.names.lookup x = some .local := by rw [ok.sc]; exact g2
      exact pg_name nd g1' (.inl g2') (.inr g2')
    | _ => cases h
  | tp is =>
    cases e with
    | Tuple es k pos =>
      simp only [tgB, Bool.and_eq_true, beq_iff_eq] at h
      obtain ⟨h1, h2⟩ := h
      obtain ⟨l1, l2⟩ := len_each (X := X) is es S h1 h2
      have base := pg_tup (pos := pos) (k := k) (n := es.length) ok.calm (setAll_ok ok.N ok.sc nd is es h1 h2) l1 l2
      intro pins s σ H v u Q I r hw
      refine base pins s σ H v u Q I r ?_
      cases v with
      | ref p =>
        obtain ⟨xs, σ', hq, e, q⟩ := hw
        exact ⟨p, xs, rfl, hq, by rw [setAll_len e, h1], σ', e, q⟩
      | _ => exact False.elim hw
    | _ => cases h
end
end L2.L3

set_option Elab.async false
set_option linter.all false
set_option maxRecDepth 100000
set_option maxHeartbeats 400000
namespace L2.L3
open PySem PySem.Spec PyProof.Rows
variable {Γ : Ev}

/-! ### what is walked -/
theorem yl_list (K : PySem.W.Frag) (a : Addr) (xs : List V) : Yields (Itl K a) (xs.map .one) (fun H => SqL K H a xs) :=
  { go := fun i H h hi => by
      have hi' : i < xs.length := by simpa using hi
      exact ⟨xs, xs[i], h, by simp [hi']⟩
    yld := fun i H x H' h _ ⟨e, y⟩ => ⟨.one x, by rw [List.getElem?_map, y xs h]; rfl, rfl, e⟩
    stop := fun i H h hi => ⟨xs, h, by simpa using hi⟩ }
theorem yl_tup (K : PySem.W.Frag) (a : Addr) (xs : List V) : Yields (Itt K a) (xs.map .one) (fun H => SqT K H a xs) :=
  { go := fun i H h hi => by
      have hi' : i < xs.length := by simpa using hi
      exact ⟨xs, xs[i], h, by simp [hi']⟩
    yld := fun i H x H' h _ ⟨e, y⟩ => ⟨.one x, by rw [List.getElem?_map, y xs h]; rfl, rfl, e⟩
    stop := fun i H h hi => ⟨xs, h, by simpa using hi⟩ }
theorem yl_str (z : Str) : Yields (Its z) (z.cps.toList.map fun c => .one (.str ⟨#[c]⟩)) (fun _ => True) :=
  { go := fun i H h hi => by
      have hi' : i < z.cps.size := by simpa using hi
      exact hi'
    yld := fun i H x H' h _ ⟨e, c, hc, ex⟩ => ⟨.one x, by rw [List.getElem?_map, Array.getElem?_toList, hc, ex]; rfl, rfl, e⟩
    stop := fun i H h hi => by
      have hi' : z.cps.size ≤ i := by simpa using hi
      exact hi' }
theorem yl_rng (lo : Int) (n : Nat) : Yields (Itr lo n) ((List.range n).map fun (k : Nat) => .one (.int (lo + (k : Int)))) (fun _ => True) :=
  { go := fun i H h hi => by
      have hi' : i < n := by simpa using hi
      exact hi'
    yld := fun i H x H' h hi ⟨e, ex⟩ => by
      have hi' : i < n := by simpa using hi
      exact ⟨.one x, by rw [List.getElem?_map, List.getElem?_range hi', ex]; rfl, rfl, e⟩
    stop := fun i H h hi => by
      have hi' : n ≤ i := by simpa using hi
      exact hi' }

/-- .. as the layer's own rule asks it -/
def wiOf (wi0 : St → Hp → (List Item → (Hp → Prop) → Hp → Prop) → Prop) : TI := fun σ H R => wi0 σ H fun xs st H' => ∀ J, Yields J xs st → R J H'
section
variable {X : Cx} {tg : Expr}
theorem pi_val' {l : Expr} {t : TE} (hl : PE X l t) : PI X tg l (wiOf fun σ H R => t σ H fun v H1 => itemsR X.K .val [v] H1 R) := by
  intro pins s σ H R I h
  refine thn (hl pins s σ H _ I h) fun v s1 ⟨x, H1, I1, r1, q1⟩ => ?_
  have fp1 : ∀ b ∈ [s1.heap.objs.size], FpOk X pins H1 b := fun b hb => by
    have e : b = s1.heap.objs.size := by simpa using hb
    subst e
    exact I1.fpOk (Nat.le_refl _) (I1.hok.fresh (Nat.le_refl _))
  cases x with
  | str z =>
    obtain ⟨t, rfl⟩ := r1
    refine wpAny_pyIter_strU ?_
    exact ⟨s1.heap.objs.size, [s1.heap.objs.size], _, _, H1, rfl, I1.kept (t' := s1.toks) fun b o e => Heap.get?_push_of_some _ e, turn_str _ z t, ⟨_, Heap.get?_push_size _ rfl, rfl, rfl⟩, fp1, q1 _ (yl_str z)⟩
  | ref a =>
    cases r1
    rcases q1 with ⟨xs, hq, q⟩ | ⟨xs, hq, q⟩
    · obtain ⟨its, rv, p, hz⟩ := I1.list hq
      refine wpAny_pyIter_list p.isList ?_
      exact ⟨s1.heap.objs.size, [s1.heap.objs.size], _, _, H1, rfl, I1.kept (t' := s1.toks) fun b o e => Heap.get?_push_of_some _ e, turn_list a _, ⟨_, Heap.get?_push_size _ rfl, rfl, rfl⟩, fp1, q _ (yl_list _ a xs)⟩
    · obtain ⟨its, rv, p, hz⟩ := I1.tuple hq
      refine wpAny_pyIter_tuple (show s1.heap.IsTuple a its.toArray from p) ?_
      exact ⟨s1.heap.objs.size, [s1.heap.objs.size], _, _, H1, rfl, I1.kept (t' := s1.toks) fun b o e => Heap.get?_push_of_some _ e, turn_tuple a _, ⟨_, Heap.get?_push_size _ rfl, rfl, rfl⟩, fp1, q _ (yl_tup _ a xs)⟩
  | _ => exact False.elim q1
theorem pi_rng1 {a : Expr} {ta : TA} {p pos : Pos} {x : Str} (hx : x = "range") (hg : Gl X x) (hm : X.mg x = none) (ha : PA X [a] ta) (hs : notStar a = true) :
    PI X tg (.Call (.Name x p) [a] [] pos) (wiOf fun σ H R => ta σ H fun vs H1 => itemsR X.K .rng1 vs H1 R) := by
  subst hx
  intro pins s σ H R I h
  refine Call_ (ld_blt I hg hm boot_range (PyProof.Rows.callWith_type1 (thn (ha pos pins s σ H _ I h) fun us s1 ⟨vs, H1, I1, r1, q1⟩ => ?_) (star_cons _ hs) rfl))
  match vs, q1 with
  | [.int j], ⟨⟨q1, q2⟩, q⟩ =>
    cases r1 with
    | cons r rr =>
      cases rr
      obtain ⟨t, rfl⟩ := r
      refine call_range_1 (range_it I1 (by omega) (by omega) q1 q2 ?_)
      have e : (j - 0).toNat = j.toNat := by simp
      rw [e]
      have y := yl_rng 0 j.toNat
      refine q _ ?_
      simpa using y
theorem pi_rng2 {a b : Expr} {ta : TA} {p pos : Pos} {x : Str} (hx : x = "range") (hg : Gl X x) (hm : X.mg x = none) (ha : PA X [a, b] ta) (hs : notStar a = true) (hs2 : notStar b = true) :
    PI X tg (.Call (.Name x p) [a, b] [] pos) (wiOf fun σ H R => ta σ H fun vs H1 => itemsR X.K .rng2 vs H1 R) := by
  subst hx
  intro pins s σ H R I h
  refine Call_ (ld_blt I hg hm boot_range (PyProof.Rows.callWith_type1 (thn (ha pos pins s σ H _ I h) fun us s1 ⟨vs, H1, I1, r1, q1⟩ => ?_) (star_cons _ hs) (by rw [star_cons _ hs2]; rfl)))
  match vs, q1 with
  | [.int i, .int j], ⟨⟨q1, q2, q3, q4⟩, q⟩ =>
    cases r1 with
    | cons r rr =>
      cases rr with
      | cons r' rr =>
        cases rr
        obtain ⟨t, rfl⟩ := r
        obtain ⟨t', rfl⟩ := r'
        exact call_range_2 (range_it I1 q1 q2 q3 q4 (q _ (yl_rng i _)))
end

/-! ### a comprehension by an invariant -/
/-- the names' values but the targets' -/
def Tg.at : Tg → List Nat
  | .nm i => [i]
  | .tp is => is
def Agree (tg : Tg) (σ' σ : St) : Prop := σ'.length = σ.length ∧ ∀ (j : Nat), j ∉ tg.at → σ'[j]? = σ[j]?
theorem set_agree {i : Nat} {v : Option V} {σ' σ : St} (h : σ'.length = σ.length) (hj : ∀ j, j ≠ i → σ'[j]? = σ[j]?) : σ'.set i v = σ.set i v := by
  apply List.ext_getElem?
  intro j
  by_cases e : j = i
  · subst e
    by_cases hl : j < σ.length
    · rw [List.getElem?_set_self (by omega), List.getElem?_set_self hl]
    · rw [List.getElem?_eq_none (by rw [List.length_set]; omega), List.getElem?_eq_none (by rw [List.length_set]; omega)]
  · rw [List.getElem?_set_ne (Ne.symm e), List.getElem?_set_ne (Ne.symm e)]
    exact hj j e
theorem setAll_agree : ∀ (is : List Nat) (vs : List V) (σ' σ : St), σ'.length = σ.length → (∀ j, j ∉ is → σ'[j]? = σ[j]?) → setAll is vs σ' = setAll is vs σ
  | [], [], σ', σ, hl, h => by
    have : σ' = σ := List.ext_getElem? fun j => h j (by simp)
    rw [this]
  | [], _ :: _, _, _, _, _ => rfl
  | _ :: _, [], _, _, _, _ => rfl
  | i :: is, v :: vs, σ', σ, hl, h => by
    simp only [setAll]
    refine setAll_agree is vs _ _ (by simp [hl]) fun j hj => ?_
    by_cases e : j = i
    · subst e
      by_cases hl' : j < σ.length
      · rw [List.getElem?_set_self (by omega), List.getElem?_set_self hl']
      · rw [List.getElem?_eq_none (by rw [List.length_set]; omega), List.getElem?_eq_none (by rw [List.length_set]; omega)]
    · rw [List.getElem?_set_ne (Ne.symm e), List.getElem?_set_ne (Ne.symm e)]
      exact h j (by simp [e, hj])
theorem setAll_keeps : ∀ (is : List Nat) (vs : List V) (σ σ' : St), setAll is vs σ = some σ' → σ'.length = σ.length ∧ ∀ j, j ∉ is → σ'[j]? = σ[j]?
  | [], [], σ, σ', e => by simp only [setAll] at e; cases e; exact ⟨rfl, fun _ _ => rfl⟩
  | [], _ :: _, _, _, e => by simp [setAll] at e
  | _ :: _, [], _, _, e => by simp [setAll] at e
  | i :: is, v :: vs, σ, σ', e => by
    simp only [setAll] at e
    obtain ⟨h1, h2⟩ := setAll_keeps is vs _ _ e
    refine ⟨by rw [h1, List.length_set], fun j hj => ?_⟩
    rw [h2 j (fun z => hj (List.mem_cons_of_mem _ z)), List.getElem?_set_ne (fun z => hj (by simp [z]))]
/-- storing: only what the targets hold hangs on what was there -/
theorem bindT_agree {K : PySem.W.Frag} {tg : Tg} {v : V} {σ' σ : St} {H : Hp} {Q : St → Hp → Prop} (a : Agree tg σ' σ) (h : bindT K tg v σ H Q) : bindT K tg v σ' H fun σ3 H3 => Agree tg σ3 σ ∧ Q σ3 H3 := by
  obtain ⟨al, aj⟩ := a
  cases tg with
  | nm i =>
    have e : σ'.set i (some v) = σ.set i (some v) := set_agree al fun j hj => aj j (by simpa [Tg.at] using hj)
    show Agree (.nm i) (σ'.set i (some v)) σ ∧ Q (σ'.set i (some v)) H
    rw [e]
    exact ⟨⟨by simp, fun j hj => List.getElem?_set_ne (fun z => hj (by simp [Tg.at, z]))⟩, h⟩
  | tp is =>
    cases v with
    | ref p =>
      obtain ⟨xs, σ3, hq, e, q⟩ := h
      exact ⟨xs, σ3, hq, by rw [setAll_agree is xs σ' σ al fun j hj => aj j hj]; exact e, ⟨(setAll_keeps is xs σ σ3 e).1, fun j hj => (setAll_keeps is xs σ σ3 e).2 j hj⟩, q⟩
    | _ => exact False.elim h
theorem bindT_mono {K : PySem.W.Frag} {tg : Tg} {v : V} {σ : St} {H : Hp} {Q Q' : St → Hp → Prop} (m : ∀ σ H, Q σ H → Q' σ H) (h : bindT K tg v σ H Q) : bindT K tg v σ H Q' := by
  cases tg with
  | nm i => exact m _ _ h
  | tp is =>
    cases v with
    | ref p => obtain ⟨xs, σ3, hq, e, q⟩ := h; exact ⟨xs, σ3, hq, e, m _ _ q⟩
    | _ => exact False.elim h
/-- an item stored, from the iterator's own step -/
theorem bindI_step {K : PySem.W.Frag} {tg : Tg} {it : Item} {x : V} {σ : St} {H H' : Hp} {Q : St → Hp → Prop} (hi : match it with | .one v => x = v ∧ H' = H | .tup vs => ∃ p, H p = none ∧ x = .ref p ∧ H' = upd H p (.tup vs)) (h : bindI K tg it σ H Q) : bindT K tg x σ H' Q := by
  cases it with
  | one v => obtain ⟨rfl, rfl⟩ := hi; exact h
  | tup vs =>
    obtain ⟨p, hp, rfl, rfl⟩ := hi
    cases tg with
    | nm i => exact h p hp
    | tp is =>
      obtain ⟨σ', e, q⟩ := h (upd H p (.tup vs)) fun b o e => by rw [upd_ne (ne_of_none e hp)]; exact e
      exact ⟨vs, σ', SqT.of upd_same, e, q⟩
theorem compB_of {K : PySem.W.Frag} {xs : List Item} {st : Hp → Prop} {tg : Tg} {tc : TT} {te : TE} {σ0 : St} {H : Hp} {Q : VK} (h : compR K xs st (bindI K tg) tc te σ0 H Q) : CompB K xs st tg tc te σ0 H Q := by
  obtain ⟨W, w0, hst, turn, done⟩ := h
  intro J Y
  refine ⟨fun i m acc σ' H' => m = xs.length - i ∧ i ≤ xs.length ∧ Agree tg σ' σ0 ∧ W i acc H', ⟨xs.length, by simp, Nat.zero_le _, ⟨rfl, fun _ _ => rfl⟩, w0⟩, ?_⟩
  rintro i m acc σ' H' ⟨rfl, hi, ag, w⟩
  have s' := hst i acc H' hi w
  by_cases hlt : i < xs.length
  · refine .inr ⟨Y.go i H' s' hlt, fun x H2 y => ?_⟩
    obtain ⟨it, hit, hy⟩ := Y.yld i H' x H2 s' hlt y
    have b := bindT_agree ag (bindI_step hy (turn i it acc H' hit w))
    refine bindT_mono (fun σ3 H3 q => ?_) b
    obtain ⟨ag3, q⟩ := q
    have e1 : ∀ (acc' : List V) (H5 : Hp), (∃ m', m' < xs.length - i ∧ m' = xs.length - (i + 1) ∧ i + 1 ≤ xs.length ∧ Agree tg σ3 σ0 ∧ W (i + 1) acc' H5) = W (i + 1) acc' H5 := fun acc' H5 =>
      propext ⟨fun ⟨_, _, _, _, _, w⟩ => w, fun w => ⟨_, by omega, rfl, hlt, ag3, w⟩⟩
    simp only [e1]
    exact q
  · have e : i = xs.length := by omega
    subst e
    obtain ⟨hz, q⟩ := done acc H' w
    exact .inl ⟨Y.stop _ H' s' (Nat.le_refl _), hz, q⟩
end L2.L3

set_option Elab.async false
set_option linter.all false
set_option maxRecDepth 100000
set_option maxHeartbeats 800000
namespace L2.L3
open PySem PySem.Spec PyProof.Rows
variable {Γ : Ev}

def notArgs : PX → Bool
  | .acons _ _ => false
  | _ => true
theorem argsPE_triv {X : Cx} {E : XK} {p : PX} {es : List Expr} (h : notArgs p = true) : ArgsPE X Γ E p es := by
  cases p <;> first | trivial | cases h
theorem Snd.of {X : Cx} {E : XK} {p : PX} {e : Expr} (pe : PE X e (wp X.K Γ p E).e) (pt : PT X e (wp X.K Γ p E).t) (hb : ∀ op es pos, e ≠ .BoolOp op es pos) (ha : (wp X.K Γ p E).a = never.a) (hn : notArgs p = true := by rfl) : Snd X Γ E p e :=
  ⟨pe, pt, fun op es pos z => absurd z (hb op es pos), fun es pos z => by rw [ha]; exact pa_never, fun _ _ _ => argsPE_triv hn⟩
theorem Snd.lit {X : Cx} {E : XK} {p : PX} {e : Expr} (pe : PE X e (wp X.K Γ p E).e) (ht : (wp X.K Γ p E).t = never.t) (hb : ∀ op es pos, e ≠ .BoolOp op es pos) (ha : (wp X.K Γ p E).a = never.a) (hn : notArgs p = true := by rfl) : Snd X Γ E p e :=
  Snd.of pe (by rw [ht]; exact pt_never) hb ha hn
theorem Snd.args {X : Cx} {E : XK} {p : PX} {es : List Expr} {pos : Pos} (ha : PA X es (wp X.K Γ p E).a) (hp : ArgsPE X Γ E p es) (he : (wp X.K Γ p E).e = never.e) (ht : (wp X.K Γ p E).t = never.t) : Snd X Γ E p (.List es pos) :=
  ⟨by rw [he]; exact pe_never, by rw [ht]; exact pt_never, fun _ _ _ z => (by cases z), fun es' pos' z => by cases z; exact ha, fun es' pos' z => by cases z; exact hp⟩
theorem and2 {a b : Bool} (h : (a && b) = true) : a = true ∧ b = true := by simpa using h
theorem pe_glo {X : Cx} {S : SC} {x : Str} {v : V} {u : Value} {pos : Pos} (hsc : X.env.scope = S.sc) (h : gloB S x = true) (hm : X.mg x = some u) (r : RelV v u) : PE X (.Name x pos) (fun _ H Q => Q v H) := by
  obtain ⟨h1, h2, h3⟩ := gloB_ok h
  exact pe_glob (show X.env.scope.names.lookup x = some .globalImplicit by rw [hsc]; exact h1) hm r h2

theorem args_star {S : SC} {pos : Pos} : ∀ (p : PX) {es : List Expr}, chk p S (.List es pos) = true → es.all notStar = true := by
  intro p
  induction p with
  | anil =>
    intro es h
    unfold chk at h
    cases es with
    | nil => rfl
    | cons _ _ => cases h
  | acons a as _ ih =>
    intro es h
    unfold chk at h
    cases es with
    | nil => cases h
    | cons e es =>
      obtain ⟨h12, h3⟩ := and2 h
      obtain ⟨h1, h2⟩ := and2 h12
      rw [List.all_cons, h1, ih h3]
      rfl
  | lst as ih =>
    intro es h
    unfold chk at h
    exact ih h
  | _ =>
    intro es h
    unfold chk at h
    cases h
theorem args_nil {K : PySem.W.Frag} {E : XK} {S : SC} {pos : Pos} {σ : St} {H : Hp} {Q : List V → Hp → Prop} : ∀ (p : PX), chk p S (.List [] pos) = true → (wp K Γ p E).a σ H Q → Q [] H := by
  intro p
  cases p with
  | anil => intro _ q; exact q
  | lst as => intro _ q; exact False.elim q
  | _ =>
    intro h
    unfold chk at h
    cases h
theorem args_nil' {K : PySem.W.Frag} {E : XK} {S : SC} {pos : Pos} {σ : St} {H : Hp} {Q : List V → Hp → Prop} : ∀ (p : PX), isArgs p = true → chk p S (.List [] pos) = true → Q [] H → (wp K Γ p E).a σ H Q := by
  intro p
  cases p with
  | anil => intro _ _ q; exact q
  | lst as => intro h; cases h
  | _ =>
    intro _ h
    unfold chk at h
    cases h
theorem mt_ok {X : Cx} (m : Mt) : ∃ id, PlainAttrs m.ty ∧ Slot m.ty m.nm id ∧ typeOf (.builtin id) = pure (.type "method_descriptor") ∧ MtR X id (mtR X.K m) := by
  cases m with
  | split => exact ⟨_, PySem.F.plainAttrs_str, PySem.F.slot_str_split, PySem.F.type_str_split, mt_split⟩
  | append => exact ⟨_, PySem.F.plainAttrs_list, PySem.F.slot_list_append, PySem.F.type_list_append, mt_appU⟩
  | find => exact ⟨_, PySem.F.plainAttrs_str, PySem.F.slot_str_find, PySem.F.type_str_find, mt_find⟩
  | rstrip => exact ⟨_, PySem.F.plainAttrs_str, PySem.F.slot_str_rstrip, PySem.F.type_str_rstrip, mt_rstrip⟩
theorem any_star {env : Env} {pos : Pos} : ∀ {es : List Expr}, es.all notStar = true → (backTo pos (starEach es env)).any (·.1) = false
  | [], _ => rfl
  | e :: es, h => by
    rw [List.all_cons] at h
    obtain ⟨h1, h2⟩ := and2 h
    rw [star_cons env h1]
    show (false || (backTo pos (starEach es env)).any (·.1)) = false
    rw [any_star h2]
    rfl
theorem all_star {env : Env} {pos : Pos} : ∀ {es : List Expr}, es.all notStar = true → (backTo pos (starEach es env)).all (fun x => !x.1) = true
  | [], _ => rfl
  | e :: es, h => by
    rw [List.all_cons] at h
    obtain ⟨h1, h2⟩ := and2 h
    rw [star_cons env h1]
    show (true && (backTo pos (starEach es env)).all (fun x => !x.1)) = true
    rw [all_star h2]
    rfl
theorem snd {G : Glob} : ∀ (p : PX) {X : Cx} {S : SC} {E : XK} (ok : OkX X S G E) {e : Expr}, chk p S e = true → needs G p → Snd X G.ev E p e := by
  intro p
  induction p with
  | var i =>
    intro X S E ok e h _
    unfold chk at h
    cases e with
    | Name x pos =>
      obtain ⟨h1, h2, h3, h4⟩ := visB_ok h
      have base := pe_var (pos := pos) (show X.N[i]? = some x by rw [ok.N]; exact h1) (show Vis X.env.scope x by rw [ok.sc]; exact h2) h3 h4
      have pe : PE X (.Name x pos) (wp X.K G.ev (.var i) E).e := fun pins s σ H Q I q => base pins s σ H Q I (by
        revert q
        show (match σ[i]? with | some (some v) => Q v H | _ => False) → ∃ v, σ[i]? = some (some v) ∧ Q v H
        split
        · rename_i v e; exact fun q => ⟨v, e, q⟩
        · exact fun q => q.elim)
      exact Snd.of pe (pt_tru pe fun _ => rfl) (fun _ _ _ z => by cases z) rfl
    | _ => cases h
  | int i =>
    intro X S E ok e h _
    unfold chk at h
    cases e with
    | Constant c j pos =>
      cases c with
      | int k =>
        have e : i = k := by simpa using h
        subst e
        exact Snd.of pe_int (pt_tru (ta := fun _ H Q => Q (.int i) H) pe_int fun _ => rfl) (fun _ _ _ z => by cases z) rfl
      | _ => cases h
    | _ => cases h
  | str x =>
    intro X S E ok e h _
    unfold chk at h
    cases e with
    | Constant c j pos =>
      cases c with
      | str k =>
        have e : x = k := by simpa using h
        subst e
        exact Snd.lit pe_str rfl (fun _ _ _ z => by cases z) rfl
      | _ => cases h
    | _ => cases h
  | bl b =>
    intro X S E ok e h _
    unfold chk at h
    cases e with
    | Constant c j pos =>
      cases c with
      | bool k =>
        have e : b = k := by simpa using h
        subst e
        exact Snd.of pe_bl (pt_tru (ta := fun _ H Q => Q (.bl b) H) pe_bl fun _ => rfl) (fun _ _ _ z => by cases z) rfl
      | _ => cases h
    | _ => cases h
  | non =>
    intro X S E ok e h _
    unfold chk at h
    cases e with
    | Constant c j pos =>
      cases c with
      | none => exact Snd.of pe_non (pt_tru (ta := fun _ H Q => Q .non H) pe_non fun _ => rfl) (fun _ _ _ z => by cases z) rfl
      | _ => cases h
    | _ => cases h
  | glo x =>
    intro X S E ok e h nd
    unfold chk at h
    cases e with
    | Name y pos =>
      obtain ⟨h1, h2⟩ := and2 h
      have e : x = y := by simpa using h1
      subst e
      obtain ⟨u, hm, r⟩ := ok.val x nd
      have pe := pe_glo (pos := pos) ok.sc h2 hm r
      exact Snd.of pe (pt_tru pe fun _ => rfl) (fun _ _ _ z => by cases z) rfl
    | _ => cases h
  | bty x n =>
    intro X S E ok e h nd
    unfold chk at h
    cases e with
    | Name y pos =>
      obtain ⟨h1, h2⟩ := and2 h
      have e : x = y := by simpa using h1
      subst e
      obtain ⟨g1, g2, g3⟩ := gloB_ok h2
      exact Snd.lit (pe_bltn (show X.env.scope.names.lookup x = some .globalImplicit by rw [ok.sc]; exact g1) (ok.no x nd.1) nd.2 rfl g3 g2) rfl (fun _ _ _ z => by cases z) rfl
    | _ => cases h
  | bin op a b iha ihb =>
    intro X S E ok e h nd
    unfold chk at h
    cases e with
    | BinOp l o r pos =>
      obtain ⟨h12, h3⟩ := and2 h
      obtain ⟨h1, h2⟩ := and2 h12
      have e : op = o := by simpa using h1
      subst e
      have pe := pe_op (pos := pos) (op_bin op) (iha ok h2 nd.1).pe (ihb ok h3 nd.2).pe
      exact Snd.of pe (pt_tru pe fun _ => rfl) (fun _ _ _ z => by cases z) rfl
    | _ => cases h
  | neg a iha =>
    intro X S E ok e h nd
    unfold chk at h
    cases e with
    | UnaryOp o e pos =>
      cases o with
      | USub =>
        have base := pe_un (pos := pos) (un_neg (X := X)) (iha ok h nd).pe
        refine Snd.lit (fun pins s σ H Q I q => base pins s σ H Q I ?_) rfl (fun _ _ _ z => by cases z) rfl
        have e : (fun (x : V) (H1 : Hp) => rU (fun i => V.int (-i)) x H1 Q) = fun (x : V) (H1 : Hp) => (match x with | .int i => Q (.int (-i)) H1 | _ => False) := by
          funext x H1
          apply propext
          cases x with
          | int i => exact ⟨fun ⟨j, e, q⟩ => by cases e; exact q, fun q => ⟨i, rfl, q⟩⟩
          | _ => exact ⟨fun ⟨j, e, q⟩ => (by cases e), fun q => False.elim q⟩
        show (wp X.K G.ev a E).e σ H (fun (x : V) (H1 : Hp) => rU (fun i => V.int (-i)) x H1 Q)
        rw [e]
        exact q
      | _ => cases h
    | _ => cases h
  | cmp op a b iha ihb =>
    intro X S E ok e h nd
    unfold chk at h
    cases e with
    | Compare l ops rs pos =>
      match ops, rs, h with
      | [o], [r], h =>
        obtain ⟨h123, h4⟩ := and2 h
        obtain ⟨h12, h3⟩ := and2 h123
        obtain ⟨h1, h2⟩ := and2 h12
        have e : op = o := by simpa using h1
        subst e
        have pa := (iha ok h3 nd.1).pe
        have pb := (ihb ok h4 nd.2).pe
        refine Snd.of (pe_cmpR (pos := pos) (op_cmp ok.un op) pa pb (noMark h2)) (fun pins s σ H Q I q => pt_cmpR (pos := pos) (op_cmp ok.un op) pa pb (noMark h2) pins s σ H Q I ?_) (fun _ _ _ z => by cases z) rfl
        have e : (fun (x : V) (H1 : Hp) => ∃ k, x = .bl k ∧ Q k H1) = fun (x : V) (H1 : Hp) => asB x H1 Q := by funext x H1; exact (asB_eq x H1 Q).symm
        show tOp _ _ _ σ H (fun (x : V) (H1 : Hp) => ∃ k, x = .bl k ∧ Q k H1)
        rw [e]
        exact q
    | _ => cases h
  | chn o p a b c iha ihb ihc =>
    intro X S E ok e h nd
    unfold chk at h
    cases e with
    | Compare l ops rs pos =>
      match ops, rs, h with
      | [o', p'], [r, q'], h =>
        obtain ⟨h5, h6⟩ := and2 h
        obtain ⟨h4, hb⟩ := and2 h5
        obtain ⟨h3, ha⟩ := and2 h4
        obtain ⟨h12, hn⟩ := and2 h3
        obtain ⟨h1, h2⟩ := and2 h12
        have e1 : o = o' := by simpa using h1
        have e2 : p = p' := by simpa using h2
        subst e1 e2
        have pa := (iha ok ha nd.1).pe
        have pb := (ihb ok hb nd.2.1).pe
        have pc := (ihc ok h6 nd.2.2).pe
        have lm : lastMarks [o, p] [r, q'] = false := noMark hn
        have eq : ∀ (Q : VK) (σ : St) , (fun (y : V) (z : V) (H3 : Hp) => ∃ k, z = .bl k ∧ (if k = true then (wp X.K G.ev c E).e σ H3 fun w' H4 => cmpR X.K p y w' H4 Q else Q (.bl false) H3)) =
            fun (y : V) (z : V) (H3 : Hp) => asB z H3 fun k H4 => if k = true then (wp X.K G.ev c E).e σ H4 fun w' H5 => cmpR X.K p y w' H5 Q else Q (.bl false) H4 := by
          intro Q σ
          funext y z H3
          rw [asB_eq]
        refine Snd.of (fun pins s σ H Q I q => pe_chain (pos := pos) (op_cmp ok.un o) (op_cmp ok.un p) pa pb pc lm pins s σ H Q I ?_) (fun pins s σ H Q I q => pt_chain (pos := pos) (op_cmp ok.un o) (op_cmp ok.un p) pa pb pc lm pins s σ H Q I ?_) (fun _ _ _ z => by cases z) rfl
        · show (wp X.K G.ev a E).e σ H fun x H1 => (wp X.K G.ev b E).e σ H1 fun y H2 => cmpR X.K o x y H2 ((fun (y : V) (z : V) (H3 : Hp) => ∃ k, z = .bl k ∧ (if k = true then (wp X.K G.ev c E).e σ H3 fun w' H4 => cmpR X.K p y w' H4 Q else Q (.bl false) H3)) y)
          rw [eq]
          exact q
        · have e : (fun (x : V) (H1 : Hp) => ∃ k, x = .bl k ∧ Q k H1) = fun (x : V) (H1 : Hp) => asB x H1 Q := by funext x H1; exact (asB_eq x H1 Q).symm
          show tChain _ _ _ _ _ σ H (fun (x : V) (H1 : Hp) => ∃ k, x = .bl k ∧ Q k H1)
          rw [e]
          show (wp X.K G.ev a E).e σ H fun x H1 => (wp X.K G.ev b E).e σ H1 fun y H2 => cmpR X.K o x y H2 ((fun (y : V) (z : V) (H3 : Hp) => ∃ k, z = .bl k ∧ (if k = true then (wp X.K G.ev c E).e σ H3 fun w' H4 => cmpR X.K p y w' H4 (fun (x : V) (H1 : Hp) => asB x H1 Q) else (fun (x : V) (H1 : Hp) => asB x H1 Q) (.bl false) H3)) y)
          rw [eq]
          exact q
    | _ => cases h
  | and a b iha ihb =>
    intro X S E ok e h nd
    unfold chk at h
    have eqA : ∀ (te : TE) (σ : St) (H : Hp) (Q : VK), (fun (x : V) (H1 : Hp) => ∃ c, x = .bl c ∧ if c = true then te σ H1 Q else Q (.bl false) H1) = fun (x : V) (H1 : Hp) => asB x H1 fun c H2 => if c = true then te σ H2 Q else Q (.bl false) H2 := by
      intro te σ H Q
      funext x H1
      rw [asB_eq]
    cases e with
    | BoolOp o es pos =>
      cases o with
      | And =>
        match es, h with
        | [l, r], h =>
          obtain ⟨h1, h2⟩ := and2 h
          have sa := iha ok h1 nd.1
          have sb := ihb ok h2 nd.2
          have pw : PW X (.BoolOp .And [l, r] pos) (wp X.K G.ev (.and a b) E).t := pw_and sa.pt (pw_and1 sb.pt)
          refine ⟨fun pins s σ H Q I q => pe_and (pos := pos) sa.pe (pe_one sb.pe) pins s σ H Q I ?_, pw.pt, fun _ _ _ _ => pw, fun _ _ z => (by cases z), fun _ _ z => trivial⟩
          show (wp X.K G.ev a E).e σ H (fun (x : V) (H1 : Hp) => ∃ c, x = .bl c ∧ if c = true then (wp X.K G.ev b E).e σ H1 Q else Q (.bl false) H1)
          rw [eqA (wp X.K G.ev b E).e σ H Q]
          exact q
        | l :: r :: q' :: rest, h =>
          obtain ⟨h1, h2⟩ := and2 h
          have sa := iha ok h1 nd.1
          have sb := ihb ok h2 nd.2
          have pw : PW X (.BoolOp .And (l :: r :: q' :: rest) pos) (wp X.K G.ev (.and a b) E).t := pw_and sa.pt (sb.pw _ _ _ rfl)
          refine ⟨fun pins s σ H Q I q => pe_and (pos := pos) sa.pe sb.pe pins s σ H Q I ?_, pw.pt, fun _ _ _ _ => pw, fun _ _ z => (by cases z), fun _ _ z => trivial⟩
          show (wp X.K G.ev a E).e σ H (fun (x : V) (H1 : Hp) => ∃ c, x = .bl c ∧ if c = true then (wp X.K G.ev b E).e σ H1 Q else Q (.bl false) H1)
          rw [eqA (wp X.K G.ev b E).e σ H Q]
          exact q
      | Or => cases h
    | _ => cases h
  | or a b iha ihb =>
    intro X S E ok e h nd
    unfold chk at h
    have eqA : ∀ (te : TE) (σ : St) (H : Hp) (Q : VK), (fun (x : V) (H1 : Hp) => ∃ c, x = .bl c ∧ if c = true then Q (.bl true) H1 else te σ H1 Q) = fun (x : V) (H1 : Hp) => asB x H1 fun c H2 => if c = true then Q (.bl true) H2 else te σ H2 Q := by
      intro te σ H Q
      funext x H1
      rw [asB_eq]
    cases e with
    | BoolOp o es pos =>
      cases o with
      | Or =>
        match es, h with
        | [l, r], h =>
          obtain ⟨h1, h2⟩ := and2 h
          have sa := iha ok h1 nd.1
          have sb := ihb ok h2 nd.2
          have pw : PW X (.BoolOp .Or [l, r] pos) (wp X.K G.ev (.or a b) E).t := pw_or sa.pt (pw_or1 sb.pt)
          refine ⟨fun pins s σ H Q I q => pe_or (pos := pos) sa.pe (pe_one sb.pe) pins s σ H Q I ?_, pw.pt, fun _ _ _ _ => pw, fun _ _ z => (by cases z), fun _ _ z => trivial⟩
          show (wp X.K G.ev a E).e σ H (fun (x : V) (H1 : Hp) => ∃ c, x = .bl c ∧ if c = true then Q (.bl true) H1 else (wp X.K G.ev b E).e σ H1 Q)
          rw [eqA (wp X.K G.ev b E).e σ H Q]
          exact q
        | l :: r :: q' :: rest, h =>
          obtain ⟨h1, h2⟩ := and2 h
          have sa := iha ok h1 nd.1
          have sb := ihb ok h2 nd.2
          have pw : PW X (.BoolOp .Or (l :: r :: q' :: rest) pos) (wp X.K G.ev (.or a b) E).t := pw_or sa.pt (sb.pw _ _ _ rfl)
          refine ⟨fun pins s σ H Q I q => pe_or (pos := pos) sa.pe sb.pe pins s σ H Q I ?_, pw.pt, fun _ _ _ _ => pw, fun _ _ z => (by cases z), fun _ _ z => trivial⟩
          show (wp X.K G.ev a E).e σ H (fun (x : V) (H1 : Hp) => ∃ c, x = .bl c ∧ if c = true then Q (.bl true) H1 else (wp X.K G.ev b E).e σ H1 Q)
          rw [eqA (wp X.K G.ev b E).e σ H Q]
          exact q
      | And => cases h
    | _ => cases h
  | not a iha =>
    intro X S E ok e h nd
    unfold chk at h
    cases e with
    | UnaryOp o e pos =>
      cases o with
      | Not =>
        have sa := iha ok h nd
        refine Snd.of (fun pins s σ H Q I q => ?_) (pt_not sa.pt) (fun _ _ _ z => by cases z) rfl
        refine UnaryOp_ (thn (sa.pe pins s σ H _ I q) fun v s1 ⟨x, H1, I1, r1, q1⟩ => ?_)
        have q1 : truQ X.K x H1 (fun c H2 => Q (.bl (!c)) H2) := q1
        rw [truQ_eq] at q1
        refine not_of (thn (tru_ok pins s1 σ H1 x v _ I1 r1 q1) fun c s2 ⟨H2, I2, q2⟩ => ?_)
        exact ⟨.bl (!c), H2, I2, rfl, q2⟩
      | _ => cases h
    | _ => cases h
  | ife c a b ihc iha ihb =>
    intro X S E ok e h nd
    unfold chk at h
    cases e with
    | IfExp t l r pos =>
      obtain ⟨h12, h3⟩ := and2 h
      obtain ⟨h1, h2⟩ := and2 h12
      exact Snd.lit (pe_ifExp (pos := pos) (ihc ok h1 nd.1).pt (iha ok h2 nd.2.1).pe (ihb ok h3 nd.2.2).pe) rfl (fun _ _ _ z => by cases z) rfl
    | _ => cases h
  | call f as ih =>
    intro X S E ok e h nd
    unfold chk at h
    cases e with
    | Call fn es kws pos =>
      cases fn with
      | Name x p =>
        cases kws with
        | nil =>
          obtain ⟨h12, h3⟩ := and2 h
          obtain ⟨h1, h2⟩ := and2 h12
          have e : f = x := by simpa using h1
          subst e
          obtain ⟨g1, g2, g3⟩ := gloB_ok h2
          have hg : Gl X f := show X.env.scope.names.lookup f = some .globalImplicit by rw [ok.sc]; exact g1
          obtain ⟨CX, k, a, fd, ps, F, hr, hm, hk, hb, hx, _⟩ := ok.fn f nd.1
          have pa := (ih ok h3 nd.2).pa es pos rfl
          have pe : PE X (.Call (.Name f p) es [] pos) (wp X.K G.ev (.call f as) E).e := by
            cases es with
            | nil =>
              intro pins s σ H Q I q
              exact pe_call0 (pos := pos) (p := p) F hr hg hm hk hb .nil hx g2 pins s σ H Q I (args_nil as h3 q)
            | cons e1 es1 =>
              have st := args_star as h3
              rw [List.all_cons] at st
              obtain ⟨s1, s2⟩ := and2 st
              have base := pe_call (pos := pos) (p := p) F hr hg hm hk hb .nil hx pa g2 (star_cons _ s1) (any_star s2)
              intro pins s σ H Q I q
              refine base pins s σ H Q I ?_
              show (wp X.K G.ev as E).a σ H fun vs H1 => G.ev.sp f (vs ++ []) H1 Q E
              simp only [List.append_nil]
              exact q
          exact Snd.of pe (pt_tru pe fun _ => rfl) (fun _ _ _ z => by cases z) rfl
        | cons _ _ => cases h
      | _ => cases h
    | _ => cases h
  | idx a b iha ihb =>
    intro X S E ok e h nd
    unfold chk at h
    cases e with
    | Subscript v i pos =>
      obtain ⟨h12, h3⟩ := and2 h
      obtain ⟨h1, h2⟩ := and2 h12
      have pe := pe_ix (pos := pos) ix_any (iha ok h2 nd.1).pe (ihb ok h3 nd.2).pe (plainIx h1)
      exact Snd.of pe (pt_tru pe fun _ => rfl) (fun _ _ _ z => by cases z) rfl
    | _ => cases h
  | nop =>
    intro X S E ok e h nd
    unfold chk at h
    cases h
  | lst as ih =>
    intro X S E ok e h nd
    unfold chk at h
    cases e with
    | List es pos =>
      have pa := (ih ok h nd).pa es pos rfl
      exact ⟨pe_lst pa, pt_never, fun _ _ _ z => (by cases z), fun _ _ z => pa_never, fun _ _ z => trivial⟩
    | _ => cases h
  | tup as ih =>
    intro X S E ok e h nd
    unfold chk at h
    cases e with
    | Tuple es k pos =>
      have pa := (ih ok h nd).pa es pos rfl
      exact Snd.lit (pe_tup pa) rfl (fun _ _ _ z => by cases z) rfl
    | _ => cases h
  | anil =>
    intro X S E ok e h nd
    unfold chk at h
    cases e with
    | List es pos =>
      cases es with
      | nil => exact Snd.args pa_nil trivial rfl rfl
      | cons _ _ => cases h
    | _ => cases h
  | acons a as iha ih =>
    intro X S E ok e h nd
    unfold chk at h
    cases e with
    | List es pos =>
      cases es with
      | nil => cases h
      | cons e1 es1 =>
        obtain ⟨h12, h3⟩ := and2 h
        obtain ⟨h1, h2⟩ := and2 h12
        exact Snd.args (pa_cons (iha ok h2 nd.1).pe ((ih ok h3 nd.2).pa es1 pos rfl) (star_cons _ h1)) ⟨(iha ok h2 nd.1).pe, (ih ok h3 nd.2).pas es1 pos rfl⟩ rfl rfl
    | _ => cases h
  | bi f as ih =>
    intro X S E ok e h nd
    unfold chk at h
    cases e with
    | Call fn es kws pos =>
      cases fn with
      | Name x p =>
        cases es with
        | nil => cases h
        | cons e1 es1 =>
          cases kws with
          | nil =>
            obtain ⟨h12, h3⟩ := and2 h
            obtain ⟨h1, h2⟩ := and2 h12
            have e : f.nm = x := by simpa using h1
            subst e
            obtain ⟨g1, g2, g3⟩ := gloB_ok h2
            have hg : Gl X f.nm := show X.env.scope.names.lookup f.nm = some .globalImplicit by rw [ok.sc]; exact g1
            have pa := (ih ok h3 nd.2).pa _ pos rfl
            have st := args_star as h3
            rw [List.all_cons] at st
            obtain ⟨s1, s2⟩ := and2 st
            have pe : PE X (.Call (.Name f.nm p) (e1 :: es1) [] pos) (wp X.K G.ev (.bi f as) E).e := by
              rcases bi_ok ok.calm f with ⟨id, hb, hc⟩ | ⟨T, hb, hc⟩
              · exact pe_callB (pos := pos) (p := p) hc hg (ok.no _ nd.1) hb pa g3 g2 (star_cons _ s1) (any_star s2)
              · exact pe_callTy (pos := pos) (p := p) hc hg (ok.no _ nd.1) hb pa g3 g2 (star_cons _ s1) (any_star s2)
            exact Snd.of pe (pt_tru pe fun _ => rfl) (fun _ _ _ z => by cases z) rfl
          | cons _ _ => cases h
      | _ => cases h
    | _ => cases h
  | isi a c iha ihc =>
    intro X S E ok e h nd
    unfold chk at h
    split at h
    · rename_i x p l r pos
      obtain ⟨h5, h6⟩ := and2 h
      obtain ⟨h4, ha⟩ := and2 h5
      obtain ⟨h3, sr⟩ := and2 h4
      obtain ⟨h12, sl⟩ := and2 h3
      obtain ⟨h1, h2⟩ := and2 h12
      have e : x = ("isinstance" : Str) := by simpa using h1
      subst e
      obtain ⟨g1, g2, g3⟩ := gloB_ok h2
      have hg : Gl X "isinstance" := show X.env.scope.names.lookup ("isinstance" : Str) = some .globalImplicit by rw [ok.sc]; exact g1
      have pe : PE X (.Call (.Name "isinstance" p) [l, r] [] pos) (wp X.K G.ev (.isi a c) E).e :=
        pe_callB (pos := pos) (p := p) call_isi hg (ok.no _ nd.1) (by kernel_rfl) (pa_cons (iha ok ha nd.2.1).pe (pa_cons (ihc ok h6 nd.2.2).pe pa_nil (star_cons _ sr)) (star_cons _ sl)) g3 g2 (star_cons _ sl) (any_star (by simp [sr]))
      exact Snd.of pe (pt_tru pe fun _ => rfl) (fun _ _ _ z => by cases z) rfl
    · cases h
  | mt m o as iho ih =>
    intro X S E ok e h nd
    unfold chk at h
    cases e with
    | Call fn es kws pos =>
      cases fn with
      | Attribute v n ap =>
        cases kws with
        | nil =>
          obtain ⟨h5, h6⟩ := and2 h
          obtain ⟨h4, ho⟩ := and2 h5
          obtain ⟨h3, hl⟩ := and2 h4
          obtain ⟨h12, hs⟩ := and2 h3
          obtain ⟨h01, h2⟩ := and2 h12
          obtain ⟨h0, h1⟩ := and2 h01
          have e : m.nm = n := by simpa using h1
          subst e
          have po := (iho ok ho nd.1).pe
          have pa := (ih ok h6 nd.2).pa _ pos rfl
          have st := args_star as h6
          obtain ⟨id, pat, sl, ty, mr⟩ := mt_ok (X := X) m
          have pe : PE X (.Call (.Attribute v m.nm ap) es [] pos) (wp X.K G.ev (.mt m o as) E).e := by
            cases es with
            | nil =>
              have base := pe_bm0 (apos := ap) (cpos := pos) pat sl ty mr po (noSup hs) h2
              intro pins s σ H Q I q
              refine base pins s σ H Q I ?_
              have e : (fun (x : V) (H1 : Hp) => tyV X.K m.ty x H1 ∧ mtR X.K m x [] H1 Q) = fun (x : V) (H1 : Hp) => tyV X.K m.ty x H1 ∧ (wp X.K G.ev as E).a σ H1 fun vs H2 => mtR X.K m x vs H2 Q := by
                funext x H1
                apply propext
                exact ⟨fun q => ⟨q.1, args_nil' as h0 h6 q.2⟩, fun q => ⟨q.1, args_nil as h6 q.2⟩⟩
              show (wp X.K G.ev o E).e σ H (fun (x : V) (H1 : Hp) => tyV X.K m.ty x H1 ∧ mtR X.K m x [] H1 Q)
              rw [e]
              exact q
            | cons e1 es1 =>
              have st' := st
              rw [List.all_cons] at st
              obtain ⟨s1, s2⟩ := and2 st
              refine pe_bm (apos := ap) (cpos := pos) pat sl ty mr po pa (noSup hs) ?_ h2 (star_cons _ s1) (any_star s2)
              rw [all_star st']
              have hl' : (e1 :: es1).length < 20 := by simpa using hl
              show (true && true && decide ((e1 :: es1).length + 0 + 0 < 30)) = true
              rw [decide_eq_true (show (e1 :: es1).length + 0 + 0 < 30 by omega)]
              rfl
          exact Snd.of pe (pt_tru pe fun _ => rfl) (fun _ _ _ z => by cases z) rfl
        | cons _ _ => cases h
      | _ => cases h
    | _ => cases h
  | slc a lo hi iha ihl ihh =>
    intro X S E ok e h nd
    unfold chk at h
    cases e with
    | Subscript v sl pos =>
      cases sl with
      | Slice l u st p2 =>
        cases st with
        | none =>
          obtain ⟨h12, h3⟩ := and2 h
          obtain ⟨h1, h2⟩ := and2 h12
          have part : ∀ (q : PX) (w : Option Expr), (∀ {e : Expr}, chk q S e = true → PE X e (wp X.K G.ev q E).e) → (match w with | none => isNop q | some e => !isNop q && chk q S e) = true →
              PO X w (fun σ H R => (if isNop q = true then fun (R : Option Int → Hp → Prop) => R none H else fun R => (wp X.K G.ev q E).e σ H fun l H2 => partQ l H2 R) R) := by
            intro q w ihq hq
            cases w with
            | none =>
              have e : isNop q = true := hq
              simp only [e, if_true]
              exact po_none
            | some e' =>
              obtain ⟨q1, q2⟩ := and2 hq
              have e : isNop q = false := by simpa using q1
              simp only [e, Bool.false_eq_true, if_false]
              intro pins s σ H Q I w
              refine po_some (ihq q2) pins s σ H Q I ?_
              show (wp X.K G.ev q E).e σ H (fun (x : V) (H1 : Hp) => ∃ i, x = .int i ∧ Q (some i) H1)
              have e2 : (fun (x : V) (H1 : Hp) => ∃ i, x = .int i ∧ Q (some i) H1) = fun (x : V) (H1 : Hp) => partQ x H1 Q := by funext x H1; exact (partQ_eq x H1 Q).symm
              rw [e2]
              exact w
          have pl := part lo l (fun hc => (ihl ok hc nd.2.1).pe) h2
          have ph := part hi u (fun hc => (ihh ok hc nd.2.2).pe) h3
          exact Snd.lit (pe_slice (pos := pos) (p2 := p2) sl_any (iha ok h1 nd.1).pe pl ph) rfl (fun _ _ _ z => by cases z) rfl
        | some _ => cases h
      | _ => cases h
    | _ => cases h
  | comp mask tgs tg ik its cond elt ihi ihc ihe =>
    intro X S E ok e h nd
    unfold chk at h
    cases e with
    | ListComp e gens scope pos =>
      match gens, h with
      | [⟨t, it, ifs, 0⟩], h =>
        obtain ⟨h5, h6⟩ := and2 h
        obtain ⟨h4, hif⟩ := and2 h5
        obtain ⟨h3, hik⟩ := and2 h4
        obtain ⟨h12, hns⟩ := and2 h3
        obtain ⟨h1, h2⟩ := and2 h12
        have C0 := compB_ok h1
        have C : CompSt X.N X.env.scope scope tgs mask := by rw [ok.N, ok.sc]; exact C0
        obtain ⟨n1, n2, n3, n4⟩ := nd
        have pi : PI X t it (wiOf fun σ H R => (wp X.K G.ev its E).a σ H fun vs H1 => itemsR X.K ik vs H1 R) := by
          cases ik with
          | val =>
            obtain ⟨i1, i2⟩ := and2 hik
            have pas := (ihi ok i2 n2).pas _ pos rfl
            cases its with
            | acons a as =>
              have pa : PE X it (wp X.K G.ev a E).e := pas.1
              have i3 : chk as S (.List [] pos) = true := by
                unfold chk at i2
                exact (and2 i2).2
              cases as with
              | anil => exact pi_val' pa
              | acons b bs => unfold chk at i3; cases i3
              | _ => cases i1
            | anil => unfold chk at i2; cases i2
            | _ => cases i1
          | rng1 =>
            cases it with
            | Call fn as kws p =>
              cases fn with
              | Name x px =>
                match as, kws, hik with
                | [a], [], hik =>
                  obtain ⟨i12, i3⟩ := and2 hik
                  obtain ⟨i1, i2⟩ := and2 i12
                  have ex : x = ("range" : Str) := by simpa using i1
                  obtain ⟨g1, g2, g3⟩ := gloB_ok i2
                  have st := args_star its i3
                  exact pi_rng1 ex (show X.env.scope.names.lookup x = some .globalImplicit by rw [ok.sc]; exact g1) (by rw [ex]; exact ok.no _ n1) ((ihi ok i3 n2).pa _ p rfl) (by simpa using st)
              | _ => cases hik
            | _ => cases hik
          | rng2 =>
            cases it with
            | Call fn as kws p =>
              cases fn with
              | Name x px =>
                match as, kws, hik with
                | [a, b], [], hik =>
                  obtain ⟨i12, i3⟩ := and2 hik
                  obtain ⟨i1, i2⟩ := and2 i12
                  have ex : x = ("range" : Str) := by simpa using i1
                  obtain ⟨g1, g2, g3⟩ := gloB_ok i2
                  have st := args_star its i3
                  simp only [List.all_cons, List.all_nil, Bool.and_true, Bool.and_eq_true] at st
                  exact pi_rng2 ex (show X.env.scope.names.lookup x = some .globalImplicit by rw [ok.sc]; exact g1) (by rw [ex]; exact ok.no _ n1) ((ihi ok i3 n2).pa _ p rfl) st.1 st.2
              | _ => cases hik
            | _ => cases hik
        refine Snd.lit (pe_comp (pos := pos) (g := bindT X.K tg) (tc := if isNop cond = true then fun _ H Q => Q true H else (wp X.K G.ev cond (fun _ _ _ => False)).t) (te := (wp X.K G.ev elt (fun _ _ _ => False)).e) ok.calm pi C (fun s H ex => ?_) (fun x => noFold hns x)) rfl (fun _ _ _ z => by cases z) rfl
        have okc := ok.comp scope tgs mask s H ex
        refine ⟨pg_tg okc C.nd h2, ?_, (ihe okc h6 n4).pe⟩
        match ifs, hif with
        | [], hif =>
          have e : isNop cond = true := hif
          simp only [e, if_true]
          exact pif_nil
        | [c], hif =>
          obtain ⟨q1, q2⟩ := and2 hif
          have e : isNop cond = false := by simpa using q1
          simp only [e, Bool.false_eq_true, if_false]
          exact pif_one (ihc okc q2 n3).pt
    | _ => cases h
end L2.L3

set_option Elab.async false
set_option linter.all false
set_option maxRecDepth 100000
set_option maxHeartbeats 800000
namespace L2.L3
open PySem PySem.Spec PyProof.Rows

/-! ### statements -/
inductive PT where
  | nil | seq (s r : PT)
  | set (i : Nat) (e : PX) | setC (i : Nat) (e : PX) | tset (is : List Nat) (e : PX) | six (o i e : PX)
  | expr (e : PX) | ret (e : PX) | retN | pass | brk | cnt
  | ife (c : PX) (a b : PT)
  | for_ (tg : Tg) (ik : ItK) (its : PX) (body : PT)
  | whl (c : PX) (body : PT)
  | own (s : PT) | frz (is : List Nat) (s : PT)

def setR : V → V → V → Hp → (Hp → Prop) → Prop := fun o i v H Q => match o, i with
  | .ref p, .int k => ∃ xs j, H p = some (.lst xs) ∧ ixN xs.length k = some j ∧ Q (upd H p (.lst (xs.set j v)))
  | _, _ => False
def forJ (J : It) (g : TG) (tb : TS) (D : Ends) (σ : St) (H1 : Hp) : Prop := ∃ W : Nat → Nat → St → Hp → Prop, (∃ m, W 0 m σ H1) ∧ ∀ i m σ H, W i m σ H →
  (J.stop i H ∧ D.nx σ H) ∨ (J.go i H ∧ ∃ N : St → Hp → Prop, (∀ σ' H', N σ' H' → ∃ m', m' < m ∧ W (i + 1) m' σ' H') ∧ ∀ x H', J.yld i H x H' → g x σ H' fun σ2 H2 => tb { D with nx := N, ct := N, bk := D.nx } σ2 H2)
def ForB (K : PySem.W.Frag) (xs : List Item) (st : Hp → Prop) (tg : Tg) (tb : TS) (D : Ends) (σ : St) (H : Hp) : Prop := ∀ J, Yields J xs st → forJ J (bindT K tg) tb D σ H
def wps (K : PySem.W.Frag) (Γ : Ev) (E : XK) : PT → TS
  | .nil => fun D σ H => D.nx σ H
  | .seq s r => fun D σ H => wps K Γ E s { D with nx := fun σ H => wps K Γ E r D σ H } σ H
  | .set i e | .setC i e => fun D σ H => (wp K Γ e E).e σ H fun x H1 => D.nx (σ.set i (some x)) H1
  | .tset is e => fun D σ H => (wp K Γ e E).e σ H fun x H1 => bindT K (.tp is) x σ H1 D.nx
  | .six o i e => fun D σ H => (wp K Γ e E).e σ H fun v H1 => (wp K Γ o E).e σ H1 fun ov H2 => (wp K Γ i E).e σ H2 fun iv H3 => setR ov iv v H3 fun H4 => D.nx σ H4
  | .expr e => fun D σ H => (wp K Γ e E).e σ H fun _ H1 => D.nx σ H1
  | .ret e => fun D σ H => (wp K Γ e E).e σ H D.rt
  | .retN => fun D _ H => D.rt .non H
  | .pass => fun D σ H => D.nx σ H
  | .brk => fun D σ H => D.bk σ H
  | .cnt => fun D σ H => D.ct σ H
  | .ife c a b => fun D σ H => (wp K Γ c E).t σ H fun k H1 => if k = true then wps K Γ E a D σ H1 else wps K Γ E b D σ H1
  | .for_ tg ik its body => fun D σ H => (wp K Γ its E).a σ H fun vs H1 => itemsR K ik vs H1 fun xs st H2 => ForB K xs st tg (wps K Γ E body) D σ H2
  | .whl c body => tWhile (wp K Γ c E).t (wps K Γ E body)
  | .own s | .frz _ s => wps K Γ E s

def needsS (G : Glob) : PT → Prop
  | .seq s r => needsS G s ∧ needsS G r
  | .set _ e | .setC _ e | .tset _ e | .expr e | .ret e => needs G e
  | .six o i e => needs G o ∧ needs G i ∧ needs G e
  | .ife c a b => needs G c ∧ needsS G a ∧ needsS G b
  | .for_ _ ik its body => ikN G ik ∧ needs G its ∧ needsS G body
  | .whl c body => needs G c ∧ needsS G body
  | .own s | .frz _ s => needsS G s
  | _ => True
def noComp : Expr → Bool
  | .ListComp _ _ _ _ | .SetComp _ _ _ _ | .DictComp _ _ _ _ _ => false
  | _ => true
def noTup : Expr → Bool
  | .Tuple _ _ _ => false
  | _ => true
def storeB (S : SC) (i : Nat) (x : Str) : Bool := S.N[i]? == some x && (S.sc.names.lookup x == some .local || S.sc.names.lookup x == some .cell)
def itB (S : SC) (ik : ItK) (its : PX) (it : Expr) (pos : Pos) : Bool := match ik with
  | .val => isArgs its && chk its S (.List [it] pos)
  | .rng1 => (match it with | .Call (.Name x _) [a] [] p => x == ("range" : Str) && gloB S x && chk its S (.List [a] p) | _ => false)
  | .rng2 => (match it with | .Call (.Name x _) [a, b] [] p => x == ("range" : Str) && gloB S x && chk its S (.List [a, b] p) | _ => false)
def isOne : PT → Bool
  | .nil | .seq _ _ => false
  | .own s | .frz _ s => isOne s
  | _ => true
def chkS : PT → SC → List Stmt → Bool
  | .nil, _, l => match l with | [] => true | _ => false
  | .seq s r, S, l => match l with | st :: l => isOne s && chkS s S [st] && chkS r S l | _ => false
  | .set i e, S, l => match l with | [.Assign [.Name x _] v _] => storeB S i x && (noComp v || S.sc.names.lookup x == some .cell) && chk e S v | _ => false
  | .setC i e, S, l => match l with
    | [.Assign [.Name x px] (.ListComp el gs sc cp) _] => locB S i x && S.sc.kind == .function && px.line == cp.line && !(sc.names.any fun (n, k) => n == x && (k == .local || k == .cell)) && chk e S (.ListComp el gs sc cp)
    | _ => false
  | .tset is e, S, l => match l with | [.Assign [.Tuple ts k p] v _] => noTup v && noComp v && tgB S (.tp is) (.Tuple ts k p) && chk e S v | _ => false
  | .six o i e, S, l => match l with | [.Assign [.Subscript ov iv _] v _] => noSlice iv && noComp v && chk e S v && chk o S ov && chk i S iv | _ => false
  | .expr e, S, l => match l with | [.Expr v _] => noComp v && chk e S v | _ => false
  | .ret e, S, l => match l with | [.Return (some v) _] => chk e S v | _ => false
  | .retN, _, l => match l with | [.Return none _] => true | _ => false
  | .pass, _, l => match l with | [.Pass _] => true | _ => false
  | .brk, _, l => match l with | [.Break _] => true | _ => false
  | .cnt, _, l => match l with | [.Continue _] => true | _ => false
  | .ife c a b, S, l => match l with | [.If t x y _] => chk c S t && chkS a S x && chkS b S y | _ => false
  | .for_ tg ik its body, S, l => match l with | [.For t it x [] pos] => tgB S tg t && noSet it && itB S ik its it pos && chkS body S x | _ => false
  | .whl c body, S, l => match l with | [.While t x [] _] => chk c S t && chkS body S x | _ => false
  | .own s, S, l | .frz _ s, S, l => chkS s S l

structure OkS (X : Cx) (S : SC) (G : Glob) (E : XK) : Prop extends OkX X S G E where
  po : PassesOwn (model X.prog X.w) X.A X.env X.xe
  nd : X.N.Nodup
  cel : ∀ x, X.fn x = true

section
variable {X : Cx} {S : SC} {G : Glob} {E : XK}
theorem noSwap {e : Expr} {t : Option Expr} {n : Nat} {env : Env} (h : noComp e = true) : swapsWith e t n env = pure false := by
  cases e <;> first | rfl | cases h
theorem pi_of (ok : OkX X S G E) {ik : ItK} {its : PX} {t it : Expr} {pos : Pos} (hik : itB S ik its it pos = true) (n1 : ikN G ik) (n2 : needs G its) :
    PI X t it (wiOf fun σ H R => (wp X.K G.ev its E).a σ H fun vs H1 => itemsR X.K ik vs H1 R) := by
  cases ik with
  | val =>
    obtain ⟨i1, i2⟩ := and2 hik
    have pas := (snd its ok i2 n2).pas _ pos rfl
    cases its with
    | acons a as =>
      have pa : PE X it (wp X.K G.ev a E).e := pas.1
      have i3 : chk as S (.List [] pos) = true := by
        unfold chk at i2
        exact (and2 i2).2
      cases as with
      | anil => exact pi_val' pa
      | acons b bs => unfold chk at i3; cases i3
      | _ => cases i1
    | anil => unfold chk at i2; cases i2
    | _ => cases i1
  | rng1 =>
    cases it with
    | Call fn as kws p =>
      cases fn with
      | Name x px =>
        match as, kws, hik with
        | [a], [], hik =>
          obtain ⟨i12, i3⟩ := and2 hik
          obtain ⟨i1, i2⟩ := and2 i12
          have ex : x = ("range" : Str) := by simpa using i1
          obtain ⟨g1, g2, g3⟩ := gloB_ok i2
          have st := args_star its i3
          exact pi_rng1 ex (show X.env.scope.names.lookup x = some .globalImplicit by rw [ok.sc]; exact g1) (by rw [ex]; exact ok.no _ n1) ((snd its ok i3 n2).pa _ p rfl) (by simpa using st)
      | _ => cases hik
    | _ => cases hik
  | rng2 =>
    cases it with
    | Call fn as kws p =>
      cases fn with
      | Name x px =>
        match as, kws, hik with
        | [a, b], [], hik =>
          obtain ⟨i12, i3⟩ := and2 hik
          obtain ⟨i1, i2⟩ := and2 i12
          have ex : x = ("range" : Str) := by simpa using i1
          obtain ⟨g1, g2, g3⟩ := gloB_ok i2
          have st := args_star its i3
          simp only [List.all_cons, List.all_nil, Bool.and_true, Bool.and_eq_true] at st
          exact pi_rng2 ex (show X.env.scope.names.lookup x = some .globalImplicit by rw [ok.sc]; exact g1) (by rw [ex]; exact ok.no _ n1) ((snd its ok i3 n2).pa _ p rfl) st.1 st.2
      | _ => cases hik
    | _ => cases hik
theorem storeB_ok {i : Nat} {x : Str} (ok : OkX X S G E) (h : storeB S i x = true) : X.N[i]? = some x ∧ Loc X.env.scope x := by
  simp only [storeB, Bool.and_eq_true, Bool.or_eq_true, beq_iff_eq] at h
  rw [ok.N, ok.sc]
  exact ⟨h.1, h.2⟩
theorem set_setR : PSet X setR := by
  intro pins s σ H o i v ov iv u Q I ro ri rv h
  refine set_list pins s σ H o i v ov iv u Q I ro ri rv ?_
  match o, i, h with
  | .ref p, .int k, ⟨xs, j, h1, h2, q⟩ => exact ⟨p, xs, k, j, rfl, rfl, h1, h2, q⟩
theorem ps_setAny (ok : OkS X S G E) {i : Nat} {x : Str} {e : PX} {v : Expr} {px pos : Pos} (h1 : storeB S i x = true) (h2 : (noComp v || S.sc.names.lookup x == some .cell) = true) (pe : PE X v (wp X.K G.ev e E).e) :
    PS X (.Assign [.Name x px] v pos) (wps X.K G.ev E (.set i e)) := by
  obtain ⟨g1, g2⟩ := storeB_ok ok.toOkX h1
  refine ps_set (pos' := px) ok.nd g1 g2 pe ?_ (.inl (ok.cel x))
  cases hn : noComp v with
  | true => exact noSwap hn
  | false =>
    rw [hn, Bool.false_or, beq_iff_eq, ← ok.sc] at h2
    have hk : X.env.kindOf x = some .cell := h2
    have key : ∀ (b c : Bool) (p1 p2 : Nat), (pure (b && X.env.kindOf x == some .local && p1 == p2 && !c) : Sem Bool) = pure false := fun b c p1 p2 => by
      rw [hk]
      have : (b && (some NameKind.cell == some NameKind.local) && p1 == p2 && !c) = false := by
        cases b <;> rfl
      rw [this]
    cases v with
    | ListComp el gs sc cp => exact key _ _ _ _
    | SetComp el gs sc cp => exact key _ _ _ _
    | DictComp k v gs sc cp => exact key _ _ _ _
    | _ => cases hn
theorem snds : ∀ (p : PT) {l : List Stmt}, OkS X S G E → chkS p S l = true → needsS G p → PSs X l (wps X.K G.ev E p) ∧ (isOne p = true → ∀ st, l = [st] → PS X st (wps X.K G.ev E p)) := by
  intro p
  have one : ∀ {p : PT} {st : Stmt}, PS X st (wps X.K G.ev E p) → PSs X [st] (wps X.K G.ev E p) ∧ (isOne p = true → ∀ st', [st] = [st'] → PS X st' (wps X.K G.ev E p)) := fun h => ⟨pss_one h, fun _ st' e => by cases e; exact h⟩
  induction p with
  | nil =>
    intro l ok h nd
    unfold chkS at h
    cases l with
    | nil => exact ⟨pss_nil, fun h => by cases h⟩
    | cons _ _ => cases h
  | seq s r ihs ihr =>
    intro l ok h nd
    unfold chkS at h
    cases l with
    | nil => cases h
    | cons st l =>
      obtain ⟨h12, h3⟩ := and2 h
      obtain ⟨h1, h2⟩ := and2 h12
      exact ⟨pss_cons ((ihs ok h2 nd.1).2 h1 st rfl) (ihr ok h3 nd.2).1, fun h => by cases h⟩
  | set i e =>
    intro l ok h nd
    unfold chkS at h
    split at h
    · obtain ⟨h12, h3⟩ := and2 h
      obtain ⟨h1, h2⟩ := and2 h12
      exact one (ps_setAny ok h1 h2 (snd e ok.toOkX h3 nd).pe)
    · cases h
  | setC i e =>
    intro l ok h nd
    unfold chkS at h
    split at h
    · rename_i x px el gs sc cp pos
      obtain ⟨h5, h6⟩ := and2 h
      obtain ⟨h4, hn⟩ := and2 h5
      obtain ⟨h3, hl⟩ := and2 h4
      obtain ⟨h1, hk⟩ := and2 h3
      refine one ?_
      cases e with
      | comp mask tgs tg ik its cond elt =>
        unfold chk at h6
        match gs, h6 with
        | [⟨t, it, ifs, 0⟩], h6 =>
          obtain ⟨g5, g6⟩ := and2 h6
          obtain ⟨g4, hif⟩ := and2 g5
          obtain ⟨g3, hik⟩ := and2 g4
          obtain ⟨g12, hns⟩ := and2 g3
          obtain ⟨g1, g2⟩ := and2 g12
          have C : CompSt X.N X.env.scope sc tgs mask := by rw [ok.N, ok.sc]; exact compB_ok g1
          obtain ⟨n1, n2, n3, n4⟩ := nd
          obtain ⟨l1, l2⟩ := locB_ok h1
          have l2' : X.env.scope.names.lookup x = some .local := by rw [ok.sc]; exact l2
          refine ps_setC (g := bindT X.K tg) (tc := if isNop cond = true then fun _ H Q => Q true H else (wp X.K G.ev cond (fun _ _ _ => False)).t) (te := (wp X.K G.ev elt (fun _ _ _ => False)).e) ok.calm ok.nd (by rw [ok.N]; exact l1) l2' (pi_of ok.toOkX (pos := cp) hik n1 n2) C (fun s H ex => ?_) (fun x => noFold hns x) ?_
          · have okc := ok.toOkX.comp sc tgs mask s H ex
            refine ⟨pg_tg okc C.nd g2, ?_, (snd elt okc g6 n4).pe⟩
            match ifs, hif with
            | [], hif =>
              have e : isNop cond = true := hif
              simp only [e, if_true]
              exact pif_nil
            | [c], hif =>
              obtain ⟨q1, q2⟩ := and2 hif
              have e : isNop cond = false := by simpa using q1
              simp only [e, Bool.false_eq_true, if_false]
              exact pif_one (snd cond okc q2 n3).pt
          · have k1 : X.env.scope.kind = .function := by rw [ok.sc]; simpa using hk
            have k2 : (X.env.blockKind == .function) = true := by simp [Env.blockKind, k1, ScopeKind.isAnnotationScope]
            have k3 : (X.env.kindOf x == some .local) = true := by
              show (X.env.scope.names.lookup x == some .local) = true
              rw [l2']; rfl
            show (pure (X.env.blockKind == .function && X.env.kindOf x == some .local && px.line == cp.line && !(sc.names.any fun (n, k) => n == x && (k == .local || k == .cell))) : Sem Bool) = pure true
            rw [k2, k3, hl, hn]
            rfl
      | _ => unfold chk at h6; cases h6
    · cases h
  | tset is e =>
    intro l ok h nd
    unfold chkS at h
    split at h
    · rename_i ts k p v pos
      obtain ⟨h123, h4⟩ := and2 h
      obtain ⟨h12, h3⟩ := and2 h123
      obtain ⟨h1, h2⟩ := and2 h12
      refine one (ps_asg (snd e ok.toOkX h4 nd).pe (pg_tg ok.toOkX ok.nd h3) ?_ ?_ ?_)
      · show swapsWith v (some (.Tuple ts k p)) pos.line X.env = pure false
        exact noSwap h2
      · cases v <;> first | rfl | cases h1
      · rfl
    · cases h
  | six o i e =>
    intro l ok h nd
    unfold chkS at h
    split at h
    · rename_i ov iv pp v pos
      obtain ⟨h5, h6⟩ := and2 h
      obtain ⟨h4, ho⟩ := and2 h5
      obtain ⟨h3, he⟩ := and2 h4
      obtain ⟨h1, h2⟩ := and2 h3
      refine one (ps_asg (snd e ok.toOkX he nd.2.2).pe (pg_sub (pos := pp) (snd o ok.toOkX ho nd.1).pe (snd i ok.toOkX h6 nd.2.1).pe set_setR ?_) ?_ ?_ ?_)
      · intro w
        cases iv <;> first | rfl | cases h1
      · show swapsWith v (some (.Subscript ov iv pp)) pos.line X.env = pure false
        exact noSwap h2
      · cases v <;> rfl
      · rfl
    · cases h
  | expr e =>
    intro l ok h nd
    unfold chkS at h
    split at h
    · obtain ⟨h1, h2⟩ := and2 h
      exact one (ps_expr (snd e ok.toOkX h2 nd).pe (noSwap h1))
    · cases h
  | ret e =>
    intro l ok h nd
    unfold chkS at h
    split at h
    · exact one (ps_ret (snd e ok.toOkX h nd).pe)
    · cases h
  | retN =>
    intro l ok h nd
    unfold chkS at h
    split at h
    · exact one ps_retN
    · cases h
  | pass =>
    intro l ok h nd
    unfold chkS at h
    split at h
    · exact one ps_pass
    · cases h
  | brk =>
    intro l ok h nd
    unfold chkS at h
    split at h
    · exact one ps_break
    · cases h
  | cnt =>
    intro l ok h nd
    unfold chkS at h
    split at h
    · exact one ps_continue
    · cases h
  | ife c a b iha ihb =>
    intro l ok h nd
    unfold chkS at h
    split at h
    · obtain ⟨h12, h3⟩ := and2 h
      obtain ⟨h1, h2⟩ := and2 h12
      exact one (ps_if (snd c ok.toOkX h1 nd.1).pt (iha ok h2 nd.2.1).1 (ihb ok h3 nd.2.2).1)
    · cases h
  | for_ tg ik its body ih =>
    intro l ok h nd
    unfold chkS at h
    split at h
    · obtain ⟨h123, h4⟩ := and2 h
      obtain ⟨h12, h3⟩ := and2 h123
      obtain ⟨h1, h2⟩ := and2 h12
      exact one (ps_for ok.po ok.calm (pi_of ok.toOkX h3 nd.1 nd.2.1) (pg_tg ok.toOkX ok.nd h1) (ih ok h4 nd.2.2).1 fun x => noFold h2 x)
    · cases h
  | whl c body ih =>
    intro l ok h nd
    unfold chkS at h
    split at h
    · obtain ⟨h1, h2⟩ := and2 h
      exact one (ps_while ok.po (snd c ok.toOkX h1 nd.1).pt (ih ok h2 nd.2).1)
    · cases h
  | own s ih =>
    intro l ok h nd
    unfold chkS at h
    exact ih ok h nd
  | frz is s ih =>
    intro l ok h nd
    unfold chkS at h
    exact ih ok h nd
end
end L2.L3

set_option Elab.async false
set_option linter.all false
set_option maxRecDepth 100000
set_option maxHeartbeats 400000
namespace L2.L3
open PySem PySem.Spec PyProof.Rows

/-! ### values without a heap -/
abbrev D := PyData
/-- a name's value: kept for good; a list of one's own, which may be changed; a list that is lent -/
inductive Sl where
  | fro (d : D) | own (d : D) | bor (d : D)
abbrev PSt := List (Option Sl)
inductive Kd where
  | fro | bor | own | new
  deriving DecidableEq
/-- may it be kept -/
def Kd.esc : Kd → Bool
  | .fro | .new => true
  | _ => false
def Kd.isOwn : Kd → Bool
  | .own => true
  | _ => false
/-- an error: its class, its values -/
abbrev XD := Value × List (Str × D)
abbrev XE := XD → Prop
abbrev DK := D → Kd → Prop
/-- what a def is worth: which parameters may be lent; is its answer a new list; what is wanted -/
structure PSp where
  md : List Bool
  nw : Bool
  run : List D → (D → Prop) → XE → Prop
  mono : ∀ {ds : List D} {Q Q' : D → Prop} {E E' : XE}, (∀ d, Q d → Q' d) → (∀ x, E x → E' x) → run ds Q E → run ds Q' E'
/-- what the module gives -/
structure PEv where
  sp : Str → PSp
  va : Str → Option D
/-- what is lent may be lent -/
def lentB : List Bool → List Bool → Bool
  | [], _ => true
  | l :: r, [] => !l && lentB r []
  | l :: r, m :: s => (!l || m) && lentB r s
def dsOf : List (D × Kd) → List D
  | [] => []
  | p :: r => p.1 :: dsOf r
def lsOf : List (D × Kd) → List Bool
  | [] => []
  | p :: r => (!p.2.esc) :: lsOf r
def escB : List (D × Kd) → Bool
  | [] => true
  | p :: r => p.2.esc && escB r
def noOwn : List (D × Kd) → Bool
  | [] => true
  | p :: r => !p.2.isOwn && noOwn r
structure D3 where
  e : PSt → DK → Prop
  t : PSt → (Bool → Prop) → Prop
  a : PSt → (List (D × Kd) → Prop) → Prop
def nev : D3 := ⟨fun _ _ => False, fun _ _ => False, fun _ _ => False⟩

def binD : Operator → D → D → DK → Prop
  | .Add, .int i, .int j, Q => Q (.int (i + j)) .fro
  | .Add, .str x, .str y, Q => x.length + y.length ≤ sizeLine ∧ Q (.str (x ++ y)) .fro
  | .Add, .list xs, .list ys, Q => xs.length + ys.length ≤ sizeLine ∧ Q (.list (xs ++ ys)) .new
  | .Add, .tuple xs, .tuple ys, Q => xs ≠ [] ∧ xs.length + ys.length ≤ sizeLine ∧ Q (.tuple (xs ++ ys)) .fro
  | .Sub, .int i, .int j, Q => Q (.int (i - j)) .fro
  | .Mult, .int i, .int j, Q => IntMulOk i j ∧ Q (.int (i * j)) .fro
  | .Mult, .str a, .int k, Q => (-(2 ^ 31) ≤ k ∧ k < 2 ^ 31 ∧ a.length * k.toNat ≤ sizeLine) ∧ Q (.str (repS a k)) .fro
  | .FloorDiv, .int i, .int j, Q => (0 < j ∧ j < 2 ^ 200) ∧ Q (.int (i / j)) .fro
  | .Mod, .int i, .int j, Q => 0 < j ∧ Q (.int (i % j)) .fro
  | .Pow, .int i, .int j, Q => CPow i j ∧ Q (.int (i ^ j.toNat)) .fro
  | _, _, _, _ => False
def eqD : D → D → (Bool → Prop) → Prop
  | .int i, .int j, Q => Q (decide (i = j))
  | .str x, .str y, Q => Q (decide (x = y))
  | .bool x, .bool y, Q => Q (decide (x = y))
  | a, b, Q => okD a ∧ okD b ∧ Q (PyData.eqv a b)
def flatD : D → Bool
  | .none | .bool _ | .int _ | .str _ => true
  | _ => false
def inD : D → D → (Bool → Prop) → Prop
  | .str x, .str y, Q => Q (inStr y x)
  | a, .list ds, Q | a, .tuple ds, Q => ((flatD a = true ∧ ds.all flatD = true) ∨ (okD a ∧ okD (.list ds))) ∧ Q (ds.any fun y => PyData.eqv y a)
  | _, _, _ => False
def ordD (f : Int → Int → Bool) : D → D → (Bool → Prop) → Prop
  | .int i, .int j, Q => Q (f i j)
  | _, _, _ => False
def isNonD : D → Bool
  | .none => true
  | _ => false
def isND : D → D → (Bool → Prop) → Prop
  | a, .none, Q => Q (isNonD a)
  | _, _, _ => False
def cmpD : CmpOp → D → D → (Bool → Prop) → Prop
  | .Eq, a, b, Q => eqD a b Q
  | .NotEq, a, b, Q => eqD a b fun k => Q (!k)
  | .Lt, a, b, Q => ordD (fun i j => decide (i < j)) a b Q
  | .LtE, a, b, Q => ordD (fun i j => decide (i ≤ j)) a b Q
  | .Gt, a, b, Q => ordD (fun i j => decide (j < i)) a b Q
  | .GtE, a, b, Q => ordD (fun i j => decide (j ≤ i)) a b Q
  | .In, a, b, Q => inD a b Q
  | .NotIn, a, b, Q => inD a b fun k => Q (!k)
  | .Is, a, b, Q => isND a b Q
  | .IsNot, a, b, Q => isND a b fun k => Q (!k)
def truD : D → (Bool → Prop) → Prop
  | .bool b, Q => Q b
  | .int i, Q => Q (i != 0)
  | .none, Q => Q false
  | .str z, Q => z.length ≤ sizeLine ∧ Q ((z.length : Int) != 0)
  | .list ds, Q => Q (!ds.isEmpty)
  | .tuple ds, Q => Q (!ds.isEmpty)
  | _, _ => False
def asD : D → (Bool → Prop) → Prop
  | .bool b, Q => Q b
  | _, _ => False
def idxD : D → D → DK → Prop
  | .str z, .int i, Q => z.length ≤ sizeLine ∧ ∃ c, atI z.cps.toList i = some c ∧ Q (.str ⟨#[c]⟩) .fro
  | .list ds, .int i, Q => ∃ d, atI ds i = some d ∧ Q d .fro
  | .tuple ds, .int i, Q => ∃ d, atI ds i = some d ∧ Q d .fro
  | _, _, _ => False
def cutD {α : Type} (xs : List α) (lo hi : Option Int) : List α := (xs.drop (HT.sIx xs.length 0 lo)).take (HT.sIx xs.length xs.length hi - HT.sIx xs.length 0 lo)
def slcD : D → Option Int → Option Int → DK → Prop
  | .str z, lo, hi, Q => z.length ≤ sizeLine ∧ Q (.str (Txt.slice z lo hi)) .fro
  | .list ds, lo, hi, Q => Q (.list (cutD ds lo hi)) .new
  | .tuple ds, lo, hi, Q => ¬ (HT.sIx ds.length 0 lo = 0 ∧ HT.sIx ds.length ds.length hi = ds.length) ∧ Q (.tuple (cutD ds lo hi)) .fro
  | _, _, _, _ => False
def partD : D → (Option Int → Prop) → Prop
  | .int i, Q => Q (some i)
  | _, _ => False
/-- isinstance by a built-in kind -/
def isD (n : String) : D → Option Bool
  | .none => some false
  | .bool _ => some (n == "bool" || n == "int")
  | .int _ => some (n == "int")
  | .str _ => some (n == "str")
  | .list _ => some (n == "list")
  | .tuple _ => some (n == "tuple")
  | .dict _ => none
def isTyN (n : String) : Bool := n == "bool" || n == "int" || n == "str" || n == "list" || n == "tuple" || n == "ValueError"
def biD : Bi → List D → DK → Prop
  | .len, [.str z], Q => z.length ≤ sizeLine ∧ Q (.int z.length) .fro
  | .len, [.list ds], Q => Q (.int ds.length) .fro
  | .len, [.tuple ds], Q => Q (.int ds.length) .fro
  | .all, [.list ds], Q => ∃ bs : List Bool, ds = bs.map PyData.bool ∧ Q (.bool (bs.all id)) .fro
  | .any, [.list ds], Q => ∃ bs : List Bool, ds = bs.map PyData.bool ∧ Q (.bool (bs.any id)) .fro
  | .int, [.int i], Q => Q (.int i) .fro
  | .int, [.bool b], Q => Q (.int (if b then 1 else 0)) .fro
  | .int, [.str z], Q => z.length ≤ 640 ∧ ∃ n, intText? z = some n ∧ Q (.int n) .fro
  | .str, [.int i], Q => i.natAbs.log2 < 1920 ∧ Q (.str (toString i)) .fro
  | .str, [.str z], Q => Q (.str z) .fro
  | _, _, _ => False
def mtD : Mt → D → List D → DK → Prop
  | .split, .str z, [.str y], Q => z.length ≤ sizeLine ∧ 0 < y.length ∧ (Txt.split z y).length ≤ sizeLine ∧ Q (.list ((Txt.split z y).map PyData.str)) .new
  | .find, .str z, [.str y], Q => Q (.int (Txt.find z y)) .fro
  | .rstrip, .str z, [], Q => z.length ≤ sizeLine ∧ Q (.str (Txt.rstrip z)) .fro
  | _, _, _, _ => False

def mtTy : Mt → D → Bool
  | .split, .str _ => true
  | .find, .str _ => true
  | .rstrip, .str _ => true
  | _, _ => false
def itemsD : ItK → List D → (List D → Prop) → Prop
  | .val, [.str z], R => R (z.cps.toList.map fun c => .str ⟨#[c]⟩)
  | .val, [.list ds], R => R ds
  | .val, [.tuple ds], R => R ds
  | .rng1, [.int j], R => (-(2 ^ 62) ≤ j ∧ j < 2 ^ 62) ∧ R ((List.range j.toNat).map fun (i : Nat) => .int (i : Int))
  | .rng2, [.int i, .int j], R => (-(2 ^ 62) ≤ i ∧ i < 2 ^ 62 ∧ -(2 ^ 62) ≤ j ∧ j < 2 ^ 62) ∧ R ((List.range (j - i).toNat).map fun (k : Nat) => .int (i + (k : Int)))
  | _, _, _ => False
def setAllD : List Nat → List D → PSt → Option PSt
  | [], [], ρ => some ρ
  | i :: is, d :: ds, ρ => setAllD is ds (ρ.set i (some (.fro d)))
  | _, _, _ => none
def bindD : Tg → D → PSt → (PSt → Prop) → Prop
  | .nm i, d, ρ, Q => Q (ρ.set i (some (.fro d)))
  | .tp is, .tuple ds, ρ, Q => ∃ ρ', setAllD is ds ρ = some ρ' ∧ Q ρ'
  | .tp _, _, _, _ => False
def maskP : List Bool → PSt → PSt
  | b :: m, v :: ρ => (if b then none else v) :: maskP m ρ
  | _, ρ => ρ
def entP (k : Nat) (mask : List Bool) (ρ : PSt) : PSt := List.replicate k none ++ maskP mask ρ
/-- a comprehension: what it gathers -/
def compD (body : D → (Option D → Prop) → Prop) : List D → List D → (List D → Prop) → Prop
  | [], acc, Q => acc.length ≤ sizeLine ∧ Q acc
  | x :: xs, acc, Q => body x fun
    | some y => acc.length < sizeLine ∧ compD body xs (acc ++ [y]) Q
    | none => compD body xs acc Q
def compBody (tg : Tg) (ρ0 : PSt) (c : PSt → (Bool → Prop) → Prop) (e : PSt → DK → Prop) (x : D) (R : Option D → Prop) : Prop :=
  bindD tg x ρ0 fun ρ1 => c ρ1 fun b => if b = true then e ρ1 fun y k => k.esc = true ∧ R (some y) else R none
def isiD : PX → D → (Bool → Prop) → Prop
  | .bty _ n, d, Q => ∃ b, isD n d = some b ∧ isTyN n = true ∧ Q b
  | _, _, _ => False
def rdV : Option (Option Sl) → DK → Prop
  | some (some (.fro d)), Q => Q d .fro
  | some (some (.own d)), Q => Q d .own
  | some (some (.bor d)), Q => Q d .bor
  | some none, _ => False
  | none, _ => False
def pe (Ψ : PEv) : PX → XE → D3
  | .var i, _ => let e : PSt → DK → Prop := fun ρ Q => rdV ρ[i]? Q
    ⟨e, fun ρ Q => e ρ fun d _ => truD d Q, nev.a⟩
  | .int i, _ => ⟨fun _ Q => Q (.int i) .fro, fun _ Q => Q (i != 0), nev.a⟩
  | .str x, _ => ⟨fun _ Q => Q (.str x) .fro, nev.t, nev.a⟩
  | .bl b, _ => ⟨fun _ Q => Q (.bool b) .fro, fun _ Q => Q b, nev.a⟩
  | .non, _ => ⟨fun _ Q => Q .none .fro, fun _ Q => Q false, nev.a⟩
  | .glo x, _ => let e : PSt → DK → Prop := fun _ Q => match Ψ.va x with
      | some d => Q d .fro
      | none => False
    ⟨e, fun ρ Q => e ρ fun d _ => truD d Q, nev.a⟩
  | .bty _ _, _ => nev
  | .bin op a b, E => let e : PSt → DK → Prop := fun ρ Q => (pe Ψ a E).e ρ fun x _ => (pe Ψ b E).e ρ fun y _ => binD op x y Q
    ⟨e, fun ρ Q => e ρ fun d _ => truD d Q, nev.a⟩
  | .neg a, E => ⟨fun ρ Q => (pe Ψ a E).e ρ fun x _ => match x with
      | .int i => Q (.int (-i)) .fro
      | _ => False, nev.t, nev.a⟩
  | .cmp op a b, E => let t : PSt → (Bool → Prop) → Prop := fun ρ Q => (pe Ψ a E).e ρ fun x _ => (pe Ψ b E).e ρ fun y _ => cmpD op x y Q
    ⟨fun ρ Q => t ρ fun k => Q (.bool k) .fro, t, nev.a⟩
  | .chn o p a b c, E => let t : PSt → (Bool → Prop) → Prop := fun ρ Q => (pe Ψ a E).e ρ fun x _ => (pe Ψ b E).e ρ fun y _ => cmpD o x y fun k => if k = true then (pe Ψ c E).e ρ fun z _ => cmpD p y z Q else Q false
    ⟨fun ρ Q => t ρ fun k => Q (.bool k) .fro, t, nev.a⟩
  | .and a b, E => ⟨fun ρ Q => (pe Ψ a E).e ρ fun x _ => asD x fun c => if c = true then (pe Ψ b E).e ρ Q else Q (.bool false) .fro,
      fun ρ Q => (pe Ψ a E).t ρ fun c => if c = true then (pe Ψ b E).t ρ Q else Q false, nev.a⟩
  | .or a b, E => ⟨fun ρ Q => (pe Ψ a E).e ρ fun x _ => asD x fun c => if c = true then Q (.bool true) .fro else (pe Ψ b E).e ρ Q,
      fun ρ Q => (pe Ψ a E).t ρ fun c => if c = true then Q true else (pe Ψ b E).t ρ Q, nev.a⟩
  | .not a, E => ⟨fun ρ Q => (pe Ψ a E).e ρ fun x _ => truD x fun c => Q (.bool (!c)) .fro, fun ρ Q => (pe Ψ a E).t ρ fun c => Q (!c), nev.a⟩
  | .ife c a b, E => ⟨fun ρ Q => (pe Ψ c E).t ρ fun k => if k = true then (pe Ψ a E).e ρ Q else (pe Ψ b E).e ρ Q, nev.t, nev.a⟩
  | .call f as, E => let e : PSt → DK → Prop := fun ρ Q => (pe Ψ as E).a ρ fun ds => lentB (lsOf ds) (Ψ.sp f).md = true ∧ (Ψ.sp f).run (dsOf ds) (fun d => Q d (if (Ψ.sp f).nw = true then .new else .fro)) E
    ⟨e, fun ρ Q => e ρ fun d _ => truD d Q, nev.a⟩
  | .isi a c, E => let t : PSt → (Bool → Prop) → Prop := fun ρ Q => (pe Ψ a E).e ρ fun d _ => isiD c d Q
    ⟨fun ρ Q => t ρ fun k => Q (.bool k) .fro, t, nev.a⟩
  | .bi f as, E => let e : PSt → DK → Prop := fun ρ Q => (pe Ψ as E).a ρ fun ds => biD f (dsOf ds) Q
    ⟨e, fun ρ Q => e ρ fun d _ => truD d Q, nev.a⟩
  | .mt m o as, E => let e : PSt → DK → Prop := fun ρ Q => (pe Ψ o E).e ρ fun x _ => mtTy m x = true ∧ (pe Ψ as E).a ρ fun ds => mtD m x (dsOf ds) Q
    ⟨e, fun ρ Q => e ρ fun d _ => truD d Q, nev.a⟩
  | .idx a b, E => let e : PSt → DK → Prop := fun ρ Q => (pe Ψ a E).e ρ fun x _ => (pe Ψ b E).e ρ fun y _ => idxD x y Q
    ⟨e, fun ρ Q => e ρ fun d _ => truD d Q, nev.a⟩
  | .slc a lo hi, E => ⟨fun ρ Q => (pe Ψ a E).e ρ fun x _ =>
      (if isNop lo = true then fun (R : Option Int → Prop) => R none else fun R => (pe Ψ lo E).e ρ fun l _ => partD l R) fun l =>
      (if isNop hi = true then fun (R : Option Int → Prop) => R none else fun R => (pe Ψ hi E).e ρ fun u _ => partD u R) fun u => slcD x l u Q, nev.t, nev.a⟩
  | .nop, _ => nev
  | .lst as, E => ⟨fun ρ Q => (pe Ψ as E).a ρ fun ds => escB ds = true ∧ ds.length ≤ sizeLine ∧ Q (.list (dsOf ds)) .new, nev.t, nev.a⟩
  | .tup as, E => ⟨fun ρ Q => (pe Ψ as E).a ρ fun ds => escB ds = true ∧ ds.length ≤ sizeLine ∧ Q (.tuple (dsOf ds)) .fro, nev.t, nev.a⟩
  | .comp mask tgs tg ik its cond elt, E => ⟨fun ρ Q => (pe Ψ its E).a ρ fun ds => itemsD ik (dsOf ds) fun xs =>
      compD (compBody tg (entP tgs.length mask ρ) (if isNop cond = true then fun _ R => R true else (pe Ψ cond (fun _ => False)).t) (pe Ψ elt (fun _ => False)).e) xs [] fun ys => Q (.list ys) .new, nev.t, nev.a⟩
  | .anil, _ => ⟨nev.e, nev.t, fun _ Q => Q []⟩
  | .acons a as, E => ⟨nev.e, nev.t, fun ρ Q => (pe Ψ a E).e ρ fun x k => (pe Ψ as E).a ρ fun xs => Q ((x, k) :: xs)⟩

/-! ### statements -/
structure PEnds where
  nx : PSt → Prop
  rt : DK
  bk : PSt → Prop := fun _ => False
  ct : PSt → Prop := fun _ => False
def frzS : Option Sl → Option Sl
  | some (.own d) => some (.fro d)
  | s => s
def frzAt : List Nat → PSt → PSt
  | [], ρ => ρ
  | i :: is, ρ => frzAt is (ρ.modify i frzS)
/-- the names of one's own lists that stand there plainly -/
def ownO : Option (Option Sl) → Bool
  | some (some (.own _)) => true
  | some (some (.fro _)) => false
  | some (some (.bor _)) => false
  | some none => false
  | none => false
def ownAt (ρ : PSt) (i : Nat) : Bool := ownO ρ[i]?
def lockVars (ρ : PSt) : PX → List Nat
  | .acons (.var i) as => if ownAt ρ i = true then i :: lockVars ρ as else lockVars ρ as
  | .acons _ as => lockVars ρ as
  | _ => []
def lockS : Option Sl → Option Sl
  | some (.own d) => some (.bor d)
  | s => s
def lock : List Nat → PSt → PSt
  | [], ρ => ρ
  | i :: is, ρ => lock is (ρ.modify i lockS)
/-- back from ρ: those of L are one's own again -/
def unlockF : List Nat → PSt → PSt → PSt
  | [], _, ρ => ρ
  | i :: L, ρ0, ρ => unlockF L ρ0 (ρ.set i (ρ0[i]?.getD none))
def unlock (L : List Nat) (ρ0 : PSt) (N : PSt → Prop) (ρ : PSt) : Prop := (∀ i ∈ L, ρ[i]? = ρ0[i]?.map lockS) ∧ N (unlockF L ρ0 ρ)
def forD (body : PEnds → PSt → Prop) (tg : Tg) (Z : PEnds) : List D → PSt → Prop
  | [], ρ => Z.nx ρ
  | x :: xs, ρ => bindD tg x ρ fun ρ1 => body { Z with nx := fun ρ2 => forD body tg Z xs ρ2, ct := fun ρ2 => forD body tg Z xs ρ2, bk := Z.nx } ρ1
/-- a list's item exchanged -/
def sixD (ds : List D) : D → D → (List D → Prop) → Prop
  | .int n, d, N => ∃ p, ixN ds.length n = some p ∧ N (ds.set p d)
  | _, _, _ => False
/-- methods that change a list: what they tell, the list behind -/
def mutL : Mt → List D → List D → (D → List D → Prop) → Prop
  | .append, ds, [d], N => ds.length < sizeLine ∧ N .none (ds ++ [d])
  | _, _, _, _ => False
def isMut : Mt → Bool
  | .append => true
  | _ => false
def mutOf : PX → Option (Mt × Nat × PX)
  | .mt m (.var i) as => if isMut m = true then some (m, i, as) else none
  | _ => none
/-- the list of one's own that a name holds -/
def ownV : Option (Option Sl) → (List D → Prop) → Prop
  | some (some (.own (.list ds))), N => N ds
  | _, _ => False
def ownL (ρ : PSt) (i : Nat) (N : List D → Prop) : Prop := ownV ρ[i]? N
def mutS (Ψ : PEv) (E : XE) (m : Mt) (i : Nat) (as : PX) (ρ : PSt) (N : D → PSt → Prop) : Prop :=
  ownL ρ i fun ds => (pe Ψ as E).a ρ fun es => escB es = true ∧ mutL m ds (dsOf es) fun d ds' => N d (ρ.set i (some (.own (.list ds'))))
def rdR : Option (Option Sl) → DK → Prop
  | some (some (.own d)), Q => Q d .new
  | some (some (.fro d)), Q => Q d .fro
  | some (some (.bor _)), _ => False
  | some none, _ => False
  | none, _ => False
def mutE : Option (Mt × Nat × PX) → (Mt → Nat → PX → Prop) → Prop → Prop
  | some (m, i, as), A, _ => A m i as
  | none, _, B => B
def pws (Ψ : PEv) (E : XE) : PT → PEnds → PSt → Prop
  | .nil, Z, ρ => Z.nx ρ
  | .seq s r, Z, ρ => pws Ψ E s { Z with nx := fun ρ' => pws Ψ E r Z ρ' } ρ
  | .set i e, Z, ρ => mutE (mutOf e) (fun m j as => mutS Ψ E m j as ρ fun d ρ' => Z.nx (ρ'.set i (some (.fro d)))) ((pe Ψ e E).e ρ fun d k => k.esc = true ∧ Z.nx (ρ.set i (some (.fro d))))
  | .setC i e, Z, ρ => (pe Ψ e E).e ρ fun d k => k.esc = true ∧ Z.nx (ρ.set i (some (.fro d)))
  | .tset is e, Z, ρ => (pe Ψ e E).e ρ fun d _ => bindD (.tp is) d ρ Z.nx
  | .six o i e, Z, ρ => match o with
    | .var j => ownL ρ j fun ds => (pe Ψ e E).e ρ fun d k => k.esc = true ∧ (pe Ψ i E).e ρ fun x _ => sixD ds x d fun es => Z.nx (ρ.set j (some (.own (.list es))))
    | _ => False
  | .expr e, Z, ρ => mutE (mutOf e) (fun m i as => mutS Ψ E m i as ρ fun _ ρ' => Z.nx ρ') ((pe Ψ e E).e ρ fun _ _ => Z.nx ρ)
  | .ret e, Z, ρ => match e with
    | .var i => rdR ρ[i]? Z.rt
    | e => (pe Ψ e E).e ρ fun d k => k.esc = true ∧ Z.rt d k
  | .retN, Z, _ => Z.rt .none .fro
  | .pass, Z, ρ => Z.nx ρ
  | .brk, Z, ρ => Z.bk ρ
  | .cnt, Z, ρ => Z.ct ρ
  | .ife c a b, Z, ρ => (pe Ψ c E).t ρ fun k => if k = true then pws Ψ E a Z ρ else pws Ψ E b Z ρ
  | .for_ tg ik its body, Z, ρ => (pe Ψ its E).a (lock (lockVars ρ its) ρ) fun ds => noOwn ds = true ∧ itemsD ik (dsOf ds) fun xs =>
      forD (pws Ψ E body) tg { Z with nx := unlock (lockVars ρ its) ρ Z.nx } xs (lock (lockVars ρ its) ρ)
  | .whl c body, Z, ρ => ∃ W : Nat → PSt → Prop, (∃ m, W m ρ) ∧ ∀ m ρ, W m ρ → (pe Ψ c E).t ρ fun b => if b = true then
      pws Ψ E body { Z with nx := fun ρ' => ∃ m', m' < m ∧ W m' ρ', ct := fun ρ' => ∃ m', m' < m ∧ W m' ρ', bk := Z.nx } ρ else Z.nx ρ
  | .own s, Z, ρ => match s with
    | .set i e | .setC i e => (pe Ψ e E).e ρ fun d k => k = .new ∧ Z.nx (ρ.set i (some (.own d)))
    | _ => False
  | .frz is s, Z, ρ => pws Ψ E s Z (frzAt is ρ)
end L2.L3

set_option Elab.async false
set_option linter.all false
set_option maxRecDepth 100000
set_option maxHeartbeats 400000
namespace L2.L3
open PySem PySem.Spec PyProof.Rows

/-! ### how values lie in the heap: F is the part that stays as it is; the places of O are not in it -/
theorem _root_.L2.Same.rd {H H' : Hp} (e : Same H H') {a : Addr} {u : HO} (h : Rd H a u) : Rd H' a u := by
  rcases h with h | ⟨o, h⟩
  · exact .inl (e _ _ h)
  · exact .inr ⟨o, e _ _ h⟩
theorem _root_.L2.Same.tupl {K : PySem.W.Frag} {H H' : Hp} {a : Addr} {xs : List V} (e : Same H H') (h : SqT K H a xs) : SqT K H' a xs := by
  rcases h with h | h
  · exact .inl (e.rd h)
  · exact .inr h
mutual
theorem Rep.mono {K : PySem.W.Frag} {H H' : Hp} (e : Same H H') : ∀ {v : V} {d : D}, Rep K H v d → Rep K H' v d
  | _, _, .non => .non
  | _, _, .bl b => .bl b
  | _, _, .int i => .int i
  | _, _, .str x => .str x
  | _, _, .lst h r => .lst (e.seq h) (Reps.mono e r)
  | _, _, .tup h r => .tup (e.tupl h) (Reps.mono e r)
theorem Reps.mono {K : PySem.W.Frag} {H H' : Hp} (e : Same H H') : ∀ {vs : List V} {ds : List D}, Reps K H vs ds → Reps K H' vs ds
  | _, _, .nil => .nil
  | _, _, .cons h t => .cons (Rep.mono e h) (Reps.mono e t)
end
theorem Reps.append {K : PySem.W.Frag} {H : Hp} : ∀ {vs ws : List V} {ds es : List D}, Reps K H vs ds → Reps K H ws es → Reps K H (vs ++ ws) (ds ++ es)
  | _, _, _, _, .nil, r => r
  | _, _, _, _, .cons h t, r => .cons h (Reps.append t r)
theorem Reps.get {K : PySem.W.Frag} {H : Hp} : ∀ {vs : List V} {ds : List D} {i : Nat} {d : D}, Reps K H vs ds → ds[i]? = some d → ∃ v, vs[i]? = some v ∧ Rep K H v d
  | _, _, i, _, .nil, h => by simp at h
  | _, _, 0, _, .cons h _, e => by simp at e; subst e; exact ⟨_, rfl, h⟩
  | _, _, i + 1, d, .cons _ t, e => by
    obtain ⟨v, h1, h2⟩ := Reps.get (i := i) t (by simpa using e)
    exact ⟨v, by simpa using h1, h2⟩
theorem Reps.set {K : PySem.W.Frag} {H : Hp} {v : V} {d : D} (r : Rep K H v d) : ∀ {vs : List V} {ds : List D} (i : Nat), Reps K H vs ds → Reps K H (vs.set i v) (ds.set i d)
  | _, _, _, .nil => .nil
  | _, _, 0, .cons _ t => .cons r t
  | _, _, i + 1, .cons h t => .cons h (Reps.set r i t)
theorem Reps.drop {K : PySem.W.Frag} {H : Hp} : ∀ {vs : List V} {ds : List D} (n : Nat), Reps K H vs ds → Reps K H (vs.drop n) (ds.drop n)
  | _, _, 0, r => r
  | _, _, _ + 1, .nil => .nil
  | _, _, n + 1, .cons _ t => Reps.drop n t
theorem Reps.take {K : PySem.W.Frag} {H : Hp} : ∀ {vs : List V} {ds : List D} (n : Nat), Reps K H vs ds → Reps K H (vs.take n) (ds.take n)
  | _, _, 0, _ => .nil
  | _, _, _ + 1, .nil => .nil
  | _, _, n + 1, .cons h t => .cons h (Reps.take n t)
theorem Reps.map_str {K : PySem.W.Frag} {H : Hp} : ∀ (xs : List Str), Reps K H (xs.map V.str) (xs.map PyData.str)
  | [] => .nil
  | x :: r => .cons (.str x) (Reps.map_str r)
theorem Reps.at {K : PySem.W.Frag} {H : Hp} {vs : List V} {ds : List D} {i : Int} {d : D} (r : Reps K H vs ds) (h : atI ds i = some d) : ∃ v, atI vs i = some v ∧ Rep K H v d := by
  unfold atI at h ⊢
  rw [r.length]
  cases e : ixN ds.length i with
  | none => rw [e] at h; cases h
  | some j =>
    rw [e] at h
    exact r.get h
theorem Reps.bools {K : PySem.W.Frag} {H : Hp} : ∀ {vs : List V} {bs : List Bool}, Reps K H vs (bs.map PyData.bool) → vs = bs.map V.bl
  | _, [], .nil => rfl
  | _, b :: bs, .cons h t => by
    cases h
    rw [List.map_cons, Reps.bools t]

structure Ext (O : Addr → Prop) (F H F' H' : Hp) : Prop where
  ff : Same F F'
  hh : Same H H'
  fh : Same F' H'
  no : ∀ b, O b → F' b = none
theorem Ext.refl {O : Addr → Prop} {F H : Hp} (fh : Same F H) (no : ∀ b, O b → F b = none) : Ext O F H F H := ⟨.refl _, .refl _, fh, no⟩
theorem Ext.trans {O : Addr → Prop} {F H F1 H1 F2 H2 : Hp} (a : Ext O F H F1 H1) (b : Ext O F1 H1 F2 H2) : Ext O F H F2 H2 := ⟨a.ff.trans b.ff, a.hh.trans b.hh, b.fh, b.no⟩
/-- the top object of a list read in H, its parts in F -/
def Shal (K : PySem.W.Frag) (F H : Hp) (v : V) (d : D) : Prop := ∃ a xs ds, v = .ref a ∧ d = .list ds ∧ SqL K H a xs ∧ Reps K F xs ds
def SRep (K : PySem.W.Frag) (F H : Hp) (v : V) (d : D) : Prop := Rep K F v d ∨ Shal K F H v d
/-- a new list, not there in B, nor of O -/
def NewR (K : PySem.W.Frag) (B : Hp) (O : Addr → Prop) (F H : Hp) (v : V) (d : D) : Prop := ∃ a xs ds, v = .ref a ∧ d = .list ds ∧ H a = some (.lst xs) ∧ F a = none ∧ (B a = none ∧ ¬ O a) ∧ Reps K F xs ds
/-- B: what stays as it is all the while -/
def VRel (K : PySem.W.Frag) (B : Hp) (O : Addr → Prop) (F H : Hp) : Kd → V → D → Prop
  | .fro, v, d => Rep K F v d
  | .bor, v, d => Shal K F B v d
  | .own, v, d => Shal K F H v d
  | .new, v, d => NewR K B O F H v d
theorem VRel.base {K : PySem.W.Frag} {B B' F H : Hp} {O O' : Addr → Prop} {k : Kd} {v : V} {d : D} (e : Same B B') (o : ∀ b, O b → O' b) (hk : k.esc = true) (h : VRel K B' O' F H k v d) : VRel K B O F H k v d := by
  cases k with
  | new =>
    obtain ⟨a, xs, ds, h1, h2, h3, h4, h5, h6⟩ := h
    exact ⟨a, xs, ds, h1, h2, h3, h4, ⟨e.free h5.1, fun z => h5.2 (o _ z)⟩, h6⟩
  | fro => exact h
  | _ => cases hk
theorem Shal.ext {K : PySem.W.Frag} {F H F' H' : Hp} {v : V} {d : D} (h : Shal K F H v d) (f : Same F F') (g : Same H H') : Shal K F' H' v d := by
  obtain ⟨a, xs, ds, h1, h2, h3, h4⟩ := h
  exact ⟨a, xs, ds, h1, h2, g.seq h3, h4.mono f⟩
theorem SRep.ext {K : PySem.W.Frag} {F H F' H' : Hp} {v : V} {d : D} (h : SRep K F H v d) (f : Same F F') (g : Same H H') : SRep K F' H' v d := by
  rcases h with h | h
  · exact .inl (h.mono f)
  · exact .inr (h.ext f g)
theorem SRep.rep {K : PySem.W.Frag} {F H : Hp} {v : V} {d : D} (h : SRep K F H v d) (f : Same F H) : Rep K H v d := by
  rcases h with h | ⟨a, xs, ds, rfl, rfl, h3, h4⟩
  · exact h.mono f
  · exact .lst h3 (h4.mono f)
theorem SRep.list {K : PySem.W.Frag} {F H : Hp} {v : V} {ds : List D} (h : SRep K F H v (.list ds)) (f : Same F H) : ∃ a xs, v = .ref a ∧ SqL K H a xs ∧ Reps K F xs ds := by
  rcases h with h | ⟨a, xs, ds', rfl, e, h3, h4⟩
  · cases h with
    | lst h r => exact ⟨_, _, rfl, f.seq h, r⟩
  · cases e
    exact ⟨a, xs, rfl, h3, h4⟩
theorem SRep.tup {K : PySem.W.Frag} {F H : Hp} {v : V} {ds : List D} (h : SRep K F H v (.tuple ds)) (f : Same F H) : ∃ a xs, v = .ref a ∧ SqT K H a xs ∧ Reps K F xs ds := by
  rcases h with h | ⟨a, xs, ds', rfl, e, h3, h4⟩
  · cases h with
    | tup h r => exact ⟨_, _, rfl, f.tupl h, r⟩
  · cases e
theorem SRep.int {K : PySem.W.Frag} {F H : Hp} {v : V} {i : Int} (h : SRep K F H v (.int i)) : v = .int i := by
  rcases h with h | ⟨a, xs, ds', rfl, e, h3, h4⟩
  · cases h; rfl
  · cases e
theorem SRep.str {K : PySem.W.Frag} {F H : Hp} {v : V} {i : Str} (h : SRep K F H v (.str i)) : v = .str i := by
  rcases h with h | ⟨a, xs, ds', rfl, e, h3, h4⟩
  · cases h; rfl
  · cases e
theorem SRep.bool {K : PySem.W.Frag} {F H : Hp} {v : V} {i : Bool} (h : SRep K F H v (.bool i)) : v = .bl i := by
  rcases h with h | ⟨a, xs, ds', rfl, e, h3, h4⟩
  · cases h; rfl
  · cases e
theorem SRep.none {K : PySem.W.Frag} {F H : Hp} {v : V} (h : SRep K F H v .none) : v = .non := by
  rcases h with h | ⟨a, xs, ds', rfl, e, h3, h4⟩
  · cases h; rfl
  · cases e
theorem SRep.nodict {K : PySem.W.Frag} {F H : Hp} {v : V} {kvs : List (PyData × PyData)} (h : SRep K F H v (.dict kvs)) : False := by
  rcases h with h | ⟨a, xs, ds', rfl, e, h3, h4⟩
  · cases h
  · cases e
/-- is it None -/
theorem SRep.non_iff {K : PySem.W.Frag} {F H : Hp} {v : V} {d : D} (h : SRep K F H v d) : decide (v = .non) = isNonD d := by
  rcases h with h | ⟨a, xs, ds', rfl, rfl, h3, h4⟩
  · cases h <;> rfl
  · rfl
theorem upd_same' {H : Hp} {p : Addr} {o : HO} (h : H p = none) : Same H (upd H p o) := fun b u q => by rw [upd_ne (ne_of_none q h)]; exact q
section
variable {K : PySem.W.Frag} {O : Addr → Prop} {F H F' H' : Hp} {v : V} {d : D}
/-- a new list stands at p -/
theorem Ext.laid {B : Hp} (sb : Same B H) (f : Same F H) (no : ∀ b, O b → F b = none ∧ H b ≠ none) {p : Addr} (h : H p = none) (xs : List V) {ds : List D} (r : Reps K F xs ds) : Ext O F H F (upd H p (.lst xs)) ∧ NewR K B O F (upd H p (.lst xs)) (.ref p) (.list ds) :=
  ⟨⟨.refl _, upd_same' h, f.trans (upd_same' h), fun b hb => (no b hb).1⟩, p, xs, ds, rfl, rfl, upd_same, f.free h, ⟨sb.free h, fun o => (no p o).2 h⟩, r⟩
/-- a new tuple stands at p -/
theorem Ext.laidT (f : Same F H) (no : ∀ b, O b → F b = none ∧ H b ≠ none) {p : Addr} (h : H p = none) (xs : List V) {ds : List D} (r : Reps K F xs ds) : Ext O F H (upd F p (.tup xs)) (upd H p (.tup xs)) ∧ Rep K (upd F p (.tup xs)) (.ref p) (.tuple ds) := by
  have hf := f.free h
  refine ⟨⟨upd_same' hf, upd_same' h, fun b u q => ?_, fun b hb => ?_⟩, .tup (SqT.of upd_same) (r.mono (upd_same' hf))⟩
  · by_cases hb : b = p
    · subst hb; rw [upd_same] at q ⊢; exact q
    · rw [upd_ne hb] at q ⊢; exact f _ _ q
  · have : b ≠ p := fun z => (no b hb).2 (by rw [z]; exact h)
    rw [upd_ne this]
    exact (no b hb).1
/-- what is new may be kept -/
theorem NewR.keep {B : Hp} (f : Same F H) (no : ∀ b, O b → F b = none) (h : NewR K B O F H v d) : ∃ F', Ext O F H F' H ∧ Rep K F' v d := by
  obtain ⟨a, xs, ds, rfl, rfl, h1, h2, h3, r⟩ := h
  refine ⟨upd F a (.lst xs), ⟨upd_same' h2, .refl _, fun b u q => ?_, fun b hb => ?_⟩, .lst (SqL.of upd_same) (r.mono (upd_same' h2))⟩
  · by_cases hb : b = a
    · subst hb; rw [upd_same] at q; cases q; exact h1
    · rw [upd_ne hb] at q; exact f _ _ q
  · have : b ≠ a := fun z => h3.2 (by rw [← z]; exact hb)
    rw [upd_ne this]
    exact no b hb
theorem VRel.keep {B : Hp} {k : Kd} (sb : Same B H) (f : Same F H) (no : ∀ b, O b → F b = none) (h : VRel K B O F H k v d) : ∃ F', Ext O F H F' H ∧ SRep K F' H v d ∧ (k.esc = true → Rep K F' v d) ∧ (k.isOwn = false → SRep K F' B v d) := by
  cases k with
  | fro => exact ⟨F, .refl f no, .inl h, fun _ => h, fun _ => .inl h⟩
  | bor => exact ⟨F, .refl f no, .inr (Shal.ext h (.refl _) sb), fun z => (by cases z), fun _ => .inr h⟩
  | own => exact ⟨F, .refl f no, .inr h, fun z => (by cases z), fun z => (by cases z)⟩
  | new =>
    obtain ⟨F', e, r⟩ := NewR.keep f no h
    exact ⟨F', e, .inl r, fun _ => r, fun _ => .inl r⟩
end
/-! ### arguments, slots -/
def ArgR (K : PySem.W.Frag) (B F H : Hp) (v : V) (p : D × Kd) : Prop := SRep K F H v p.1 ∧ (p.2.esc = true → Rep K F v p.1) ∧ (p.2.isOwn = false → SRep K F B v p.1)
abbrev ArgsE (K : PySem.W.Frag) (B F H : Hp) : List V → List (D × Kd) → Prop := Paired (ArgR K B F H)
def ArgsR (K : PySem.W.Frag) (F H : Hp) : List Bool → List V → List D → Prop
  | _, [], [] => True
  | m, v :: vs, d :: ds => SRep K F H v d ∧ (m.headD false = false → Rep K F v d) ∧ ArgsR K F H m.tail vs ds
  | _, _, _ => False
def XRel (K : PySem.W.Frag) (F H : Hp) (x : XD) (dx : Option Addr) : Prop := ∃ a fs, dx = some a ∧ H a = some (.xd fs) ∧ Paired (fun (p : Str × V) (q : Str × D) => p.1 = q.1 ∧ Rep K F p.2 q.2) fs x.2
def rtK (P : PSp) : Kd := if P.nw = true then .new else .fro
theorem rtK_esc (P : PSp) : (rtK P).esc = true := by unfold rtK; split <;> rfl
def lift (K : PySem.W.Frag) (P : PSp) : Sp := fun vs H Q E => ∃ (O : Addr → Prop) (F : Hp) (ds : List D), Same F H ∧ (∀ b, O b → F b = none ∧ H b ≠ none) ∧ ArgsR K F H P.md vs ds ∧
  P.run ds (fun d => ∀ v F' H', Ext O F H F' H' → VRel K H O F' H' (rtK P) v d → Q v H') (fun x => ∀ dx F' H', Ext O F H F' H' → XRel K F' H' x dx → E x.1 dx H')
def SlE (K : PySem.W.Frag) (B F H : Hp) : Sl → V → Prop
  | .fro d, v => Rep K F v d
  | .own d, v => Shal K F H v d
  | .bor d, v => Shal K F B v d
structure EOk (K : PySem.W.Frag) (B : Hp) (O : Addr → Prop) (F H : Hp) (ρ : PSt) (σ : St) : Prop where
  sb : Same B H
  fh : Same F H
  no : ∀ b, O b → F b = none ∧ H b ≠ none
  len : ρ.length = σ.length
  sl : ∀ (i : Nat) s, ρ[i]? = some (some s) → ∃ v, σ[i]? = some (some v) ∧ SlE K B F H s v
def XOk (K : PySem.W.Frag) (O : Addr → Prop) (F H : Hp) (E : XE) (EK : XK) : Prop := ∀ x dx F' H', Ext O F H F' H' → XRel K F' H' x dx → E x → EK x.1 dx H'
structure GOk (K : PySem.W.Frag) (Γ : Ev) (Ψ : PEv) : Prop where
  sp : ∀ f vs H Q E, lift K (Ψ.sp f) vs H Q E → Γ.sp f vs H Q E
  va : ∀ x d, Ψ.va x = some d → ∀ F, Rep K F (Γ.va x) d
section
variable {K : PySem.W.Frag} {B : Hp} {O : Addr → Prop} {F H F' H' : Hp} {ρ : PSt} {σ : St}
theorem EOk.ext (I : EOk K B O F H ρ σ) (e : Ext O F H F' H') : EOk K B O F' H' ρ σ where
  sb := I.sb.trans e.hh
  fh := e.fh
  no := fun b hb => ⟨e.no b hb, fun z => (I.no b hb).2 (e.hh.free z)⟩
  len := I.len
  sl := fun i s h => by
    obtain ⟨v, h1, h2⟩ := I.sl i s h
    refine ⟨v, h1, ?_⟩
    cases s with
    | fro d => exact Rep.mono e.ff h2
    | own d => exact Shal.ext h2 e.ff e.hh
    | bor d => exact Shal.ext h2 e.ff (.refl _)
theorem XOk.ext {E : XE} {EK : XK} (h : XOk K O F H E EK) (e : Ext O F H F' H') : XOk K O F' H' E EK := fun x dx F2 H2 e2 r q => h x dx F2 H2 (e.trans e2) r q
theorem EOk.refl (I : EOk K B O F H ρ σ) : Ext O F H F H := .refl I.fh fun b hb => (I.no b hb).1
theorem ArgsE.ext {vs : List V} {ds : List (D × Kd)} (h : ArgsE K B F H vs ds) (f : Same F F') (g : Same H H') : ArgsE K B F' H' vs ds := by
  induction h with
  | nil => exact .nil
  | cons h _ ih => exact .cons ⟨h.1.ext f g, fun z => (h.2.1 z).mono f, fun z => (h.2.2 z).ext f (.refl _)⟩ ih
theorem ArgsE.of_lent {vs : List V} {ds : List (D × Kd)} (h : ArgsE K B F H vs ds) : ∀ {md : List Bool}, lentB (lsOf ds) md = true → ArgsR K F H md vs (dsOf ds) := by
  induction h with
  | nil => intro md _; trivial
  | @cons v p vs ds h _ ih =>
    intro md hl
    cases md with
    | nil =>
      simp only [lsOf, lentB, Bool.and_eq_true, Bool.not_eq_true', Bool.not_eq_false'] at hl
      exact ⟨h.1, fun _ => h.2.1 (by simpa using hl.1), ih hl.2⟩
    | cons m md =>
      simp only [lsOf, lentB, Bool.and_eq_true, Bool.or_eq_true, Bool.not_not] at hl
      refine ⟨h.1, fun z => h.2.1 ?_, ih hl.2⟩
      rcases hl.1 with q | q
      · exact q
      · rw [q] at z; cases z
theorem ArgsE.reps {vs : List V} {ds : List (D × Kd)} (h : ArgsE K B F H vs ds) : escB ds = true → Reps K F vs (dsOf ds) := by
  induction h with
  | nil => intro _; exact .nil
  | cons h _ ih =>
    intro z
    simp only [escB, Bool.and_eq_true] at z
    exact .cons (h.2.1 z.1) (ih z.2)
/-- what is lent stays, too -/
theorem ArgsE.stay {vs : List V} {ds : List (D × Kd)} (h : ArgsE K B F H vs ds) : noOwn ds = true → ArgsE K B F B vs ds := by
  induction h with
  | nil => intro _; exact .nil
  | cons h _ ih =>
    intro z
    simp only [noOwn, Bool.and_eq_true, Bool.not_eq_true'] at z
    exact .cons ⟨h.2.2 z.1, h.2.1, h.2.2⟩ (ih z.2)
theorem dsOf_len : ∀ (ds : List (D × Kd)), (dsOf ds).length = ds.length
  | [] => rfl
  | _ :: r => congrArg (· + 1) (dsOf_len r)
theorem ArgsE.length {vs : List V} {ds : List (D × Kd)} (h : ArgsE K B F H vs ds) : vs.length = ds.length := Paired.length h
end
end L2.L3

set_option Elab.async false
set_option linter.all false
set_option maxRecDepth 100000
set_option maxHeartbeats 400000
namespace L2.L3
open PySem PySem.Spec PyProof.Rows

section
variable {K : PySem.W.Frag} {B : Hp} {O : Addr → Prop} {F H : Hp} {v w : V} {a b : D} {Q : DK} {R : VK}
abbrev Kont (K : PySem.W.Frag) (B : Hp) (O : Addr → Prop) (F H : Hp) (Q : DK) (R : VK) : Prop := ∀ v F' H' k d, Ext O F H F' H' → VRel K B O F' H' k v d → Q d k → R v H'
abbrev KontB (O : Addr → Prop) (F H : Hp) (Q : Bool → Prop) (R : Bool → Hp → Prop) : Prop := ∀ b F' H', Ext O F H F' H' → Q b → R b H'
abbrev NoO (O : Addr → Prop) (F H : Hp) : Prop := ∀ b, O b → F b = none ∧ H b ≠ none
theorem NoO.refl (no : NoO O F H) (f : Same F H) : Ext O F H F H := .refl f fun b hb => (no b hb).1
theorem bin_ok {op : Operator} (sb : Same B H) (f : Same F H) (no : NoO O F H) (ra : SRep K F H v a) (rb : SRep K F H w b) (h : binD op a b Q) (k : Kont K B O F H Q R) : binR K op v w H R := by
  unfold binD at h
  split at h
  · obtain rfl := ra.int
    obtain rfl := rb.int
    exact k _ F H .fro _ (no.refl f) (.int _) h
  · obtain rfl := ra.str
    obtain rfl := rb.str
    exact ⟨h.1, k _ F H .fro _ (no.refl f) (.str _) h.2⟩
  · obtain ⟨p, xs, rfl, hp, rp⟩ := ra.list f
    obtain ⟨q, ys, rfl, hq, rq⟩ := rb.list f
    refine .inl ⟨xs, ys, hp, hq, by rw [rp.length, rq.length]; exact h.1, fun l hl => ?_⟩
    obtain ⟨e, n⟩ := Ext.laid sb f no hl (xs ++ ys) (rp.append rq)
    exact k _ _ _ .new _ e n h.2
  · obtain ⟨p, xs, rfl, hp, rp⟩ := ra.tup f
    obtain ⟨q, ys, rfl, hq, rq⟩ := rb.tup f
    refine .inr ⟨p, q, xs, ys, rfl, rfl, hp, hq, ?_, by rw [rp.length, rq.length]; exact h.2.1, fun z => ?_, fun _ l hl => ?_⟩
    · intro z
      subst z
      cases rp
      exact h.1 rfl
    · subst z
      cases rq
      rcases ra with ra | ⟨_, _, _, _, z, _⟩
      · have q := h.2.2
        rw [List.append_nil] at q
        exact k _ F H .fro _ (no.refl f) ra q
      · cases z
    · obtain ⟨e, n⟩ := Ext.laidT f no hl (xs ++ ys) (rp.append rq)
      exact k _ _ _ .fro _ e n h.2.2
  · obtain rfl := ra.int
    obtain rfl := rb.int
    exact k _ F H .fro _ (no.refl f) (.int _) h
  · obtain rfl := ra.int
    obtain rfl := rb.int
    exact ⟨h.1, k _ F H .fro _ (no.refl f) (.int _) h.2⟩
  · obtain rfl := ra.str
    obtain rfl := rb.int
    exact ⟨h.1, k _ F H .fro _ (no.refl f) (.str _) h.2⟩
  · obtain rfl := ra.int
    obtain rfl := rb.int
    exact ⟨h.1, k _ F H .fro _ (no.refl f) (.int _) h.2⟩
  · obtain rfl := ra.int
    obtain rfl := rb.int
    exact ⟨h.1, k _ F H .fro _ (no.refl f) (.int _) h.2⟩
  · obtain rfl := ra.int
    obtain rfl := rb.int
    exact ⟨h.1, k _ F H .fro _ (no.refl f) (.int _) h.2⟩
  · exact h.elim

theorem eq_ok {QB : Bool → Prop} (neg : Bool) (f : Same F H) (no : NoO O F H) (ra : SRep K F H v a) (rb : SRep K F H w b) (h : eqD a b fun k => QB (if neg then !k else k)) (k : ∀ c, QB c → R (.bl c) H) : rEq K neg v w H R := by
  have gen : okD a ∧ okD b ∧ QB (if neg then !PyData.eqv a b else PyData.eqv a b) → (∃ dx dy, Rep K H v dx ∧ Rep K H w dy ∧ okD dx ∧ okD dy ∧ R (.bl (if neg then !PyData.eqv dx dy else PyData.eqv dx dy)) H) := fun ⟨o1, o2, q⟩ =>
    ⟨a, b, ra.rep f, rb.rep f, o1, o2, k _ q⟩
  have ra' := ra.rep f
  have rb' := rb.rep f
  unfold eqD at h
  split at h
  · obtain rfl := ra.int
    obtain rfl := rb.int
    exact k _ h
  · obtain rfl := ra.str
    obtain rfl := rb.str
    exact k _ h
  · obtain rfl := ra.bool
    obtain rfl := rb.bool
    exact k _ h
  · have g := gen h
    rename_i n1 n2 n3
    cases ra' with
    | int i =>
      cases rb' with
      | int j => exact absurd rfl (n1 i j rfl)
      | _ => exact g
    | str i =>
      cases rb' with
      | str j => exact absurd rfl (n2 i j rfl)
      | _ => exact g
    | bl i =>
      cases rb' with
      | bl j => exact absurd rfl (n3 i j rfl)
      | _ => exact g
    | _ => exact g
theorem flat_rep {F : Hp} {v w : V} {a b : D} (ra : Rep K F v a) (rb : Rep K F w b) (fa : flatD a = true) (fb : flatD b = true) : eqV v w = PyData.eqv a b := by
  cases ra <;> cases rb <;> first | exact absurd (show false = true from fa) Bool.false_ne_true | exact absurd (show false = true from fb) Bool.false_ne_true | (simp only [eqV, PyData.eqv])
theorem flat_v {F : Hp} {v : V} {a : D} (ra : Rep K F v a) (fa : flatD a = true) : flatV v = true := by
  cases ra <;> first | rfl | exact absurd (show false = true from fa) Bool.false_ne_true
theorem flat_all {F : Hp} : ∀ {vs : List V} {ds : List D}, Reps K F vs ds → ds.all flatD = true → vs.all flatV = true
  | _, _, .nil, _ => rfl
  | _, _, .cons h t, f => by
    rw [List.all_cons, Bool.and_eq_true] at f ⊢
    exact ⟨flat_v h f.1, flat_all t f.2⟩
theorem flat_any {F : Hp} {v : V} {a : D} (ra : Rep K F v a) (fa : flatD a = true) : ∀ {vs : List V} {ds : List D}, Reps K F vs ds → ds.all flatD = true → inV v vs = ds.any fun y => PyData.eqv y a
  | _, _, .nil, _ => rfl
  | _, _, .cons h t, f => by
    rw [List.all_cons, Bool.and_eq_true] at f
    have e := flat_any ra fa t f.2
    unfold inV at e ⊢
    rw [List.any_cons, List.any_cons, flat_rep h ra f.1 fa, e]
theorem SRep.flat {F H : Hp} {v : V} {a : D} (h : SRep K F H v a) (fa : flatD a = true) : Rep K F v a := by
  rcases h with h | ⟨_, _, _, _, rfl, _⟩
  · exact h
  · cases fa
theorem in_ok {QB : Bool → Prop} (neg : Bool) (f : Same F H) (no : NoO O F H) (ra : SRep K F H v a) (rb : SRep K F H w b) (h : inD a b fun k => QB (if neg then !k else k)) (k : ∀ c, QB c → R (.bl c) H) : rInU K neg v w H R := by
  have rb' := rb.rep f
  unfold inD at h
  split at h
  · obtain rfl := rb.str
    obtain rfl := ra.str
    exact k _ h
  · rename_i ds
    obtain ⟨p, xs, rfl, hp, rp⟩ := rb.list f
    rcases h.1 with ⟨fa, fs⟩ | ⟨o1, o2⟩
    · refine .inl ⟨p, xs, rfl, .inl hp, flat_v (ra.flat fa) fa, flat_all rp fs, ?_⟩
      rw [flat_any (ra.flat fa) fa rp fs]
      exact k _ h.2
    · exact .inr ⟨_, ds, ra.rep f, .inl rb', o1, o2, k _ h.2⟩
  · rename_i ds
    obtain ⟨p, xs, rfl, hp, rp⟩ := rb.tup f
    rcases h.1 with ⟨fa, fs⟩ | ⟨o1, o2⟩
    · refine .inl ⟨p, xs, rfl, .inr hp, flat_v (ra.flat fa) fa, flat_all rp fs, ?_⟩
      rw [flat_any (ra.flat fa) fa rp fs]
      exact k _ h.2
    · exact .inr ⟨_, ds, ra.rep f, .inr rb', o1, o2, k _ h.2⟩
  · exact h.elim
theorem ord_ok {QB : Bool → Prop} {g : Int → Int → Bool} (ra : SRep K F H v a) (rb : SRep K F H w b) (h : ordD g a b QB) (k : ∀ c, QB c → R (.bl c) H) : rOrd g v w H R := by
  unfold ordD at h
  split at h
  · obtain rfl := ra.int
    obtain rfl := rb.int
    exact k _ h
  · exact h.elim
theorem cmp_ok {op : CmpOp} {QB : Bool → Prop} (f : Same F H) (no : NoO O F H) (ra : SRep K F H v a) (rb : SRep K F H w b) (h : cmpD op a b QB) (k : ∀ c, QB c → R (.bl c) H) : cmpR K op v w H R := by
  cases op with
  | Eq => exact eq_ok false f no ra rb h k
  | NotEq => exact eq_ok true f no ra rb h k
  | Lt => exact ord_ok ra rb h k
  | LtE => exact ord_ok ra rb h k
  | Gt => exact ord_ok ra rb h k
  | GtE => exact ord_ok ra rb h k
  | In => exact in_ok false f no ra rb h k
  | NotIn => exact in_ok true f no ra rb h k
  | Is =>
    have h' : isND a b QB := h
    unfold isND at h'
    split at h'
    · obtain rfl := rb.none
      have e := ra.non_iff
      show R (.bl (decide (v = .non))) H
      rw [e]
      exact k _ h'
    · exact h'.elim
  | IsNot =>
    have h' : isND a b fun k => QB (!k) := h
    unfold isND at h'
    split at h'
    · obtain rfl := rb.none
      have e := ra.non_iff
      show R (.bl (!decide (v = .non))) H
      rw [e]
      exact k _ h'
    · exact h'.elim
theorem isEmpty_reps {xs : List V} {ds : List D} (r : Reps K F xs ds) : (!ds.isEmpty) = !xs.isEmpty := by
  cases r <;> rfl
theorem tru_okD {QB : Bool → Prop} {RB : Bool → Hp → Prop} (f : Same F H) (ra : SRep K F H v a) (h : truD a QB) (k : ∀ c, QB c → RB c H) : truQ K v H RB := by
  unfold truD at h
  split at h
  · obtain rfl := ra.bool; exact k _ h
  · obtain rfl := ra.int; exact k _ h
  · obtain rfl := ra.none; exact k _ h
  · obtain rfl := ra.str; exact ⟨h.1, k _ h.2⟩
  · obtain ⟨p, xs, rfl, hp, rp⟩ := ra.list f
    rw [isEmpty_reps rp] at h
    exact ⟨_, .inl ⟨xs, hp, rfl⟩, k _ h⟩
  · obtain ⟨p, xs, rfl, hp, rp⟩ := ra.tup f
    rw [isEmpty_reps rp] at h
    exact ⟨_, .inr (.inl ⟨xs, hp, rfl⟩), k _ h⟩
  · exact h.elim
theorem as_okD {QB : Bool → Prop} {RB : Bool → Hp → Prop} (ra : SRep K F H v a) (h : asD a QB) (k : ∀ c, QB c → RB c H) : asB v H RB := by
  unfold asD at h
  split at h
  · obtain rfl := ra.bool; exact k _ h
  · exact h.elim
theorem idx_ok (f : Same F H) (no : NoO O F H) (ra : SRep K F H v a) (rb : SRep K F H w b) (h : idxD a b Q) (k : Kont K B O F H Q R) : rIxU K v w H R := by
  unfold idxD at h
  split at h
  · obtain rfl := ra.str
    obtain rfl := rb.int
    obtain ⟨h1, c, h2, q⟩ := h
    exact ⟨h1, c, h2, k _ F H .fro _ (no.refl f) (.str _) q⟩
  · obtain ⟨p, xs, rfl, hp, rp⟩ := ra.list f
    obtain rfl := rb.int
    obtain ⟨d, h1, q⟩ := h
    obtain ⟨x, h2, r⟩ := rp.at h1
    exact ⟨xs, x, .inl hp, h2, k _ F H .fro _ (no.refl f) r q⟩
  · obtain ⟨p, xs, rfl, hp, rp⟩ := ra.tup f
    obtain rfl := rb.int
    obtain ⟨d, h1, q⟩ := h
    obtain ⟨x, h2, r⟩ := rp.at h1
    exact ⟨xs, x, .inr hp, h2, k _ F H .fro _ (no.refl f) r q⟩
  · exact h.elim
theorem Reps.cut {xs : List V} {ds : List D} (r : Reps K F xs ds) (lo hi : Option Int) : Reps K F (cutV xs lo hi) (cutD ds lo hi) := by
  unfold cutV cutD
  rw [r.length]
  exact (r.drop _).take _
theorem slc_ok {lo hi : Option Int} (sb : Same B H) (f : Same F H) (no : NoO O F H) (ra : SRep K F H v a) (h : slcD a lo hi Q) (k : Kont K B O F H Q R) : rSl K v lo hi H R := by
  unfold slcD at h
  split at h
  · obtain rfl := ra.str
    exact ⟨h.1, k _ F H .fro _ (no.refl f) (.str _) h.2⟩
  · obtain ⟨p, xs, rfl, hp, rp⟩ := ra.list f
    refine .inl ⟨p, xs, rfl, hp, fun l hl => ?_⟩
    obtain ⟨e, n⟩ := Ext.laid sb f no hl (cutV xs lo hi) (rp.cut lo hi)
    exact k _ _ _ .new _ e n h
  · obtain ⟨p, xs, rfl, hp, rp⟩ := ra.tup f
    refine .inr ⟨p, xs, rfl, hp, by rw [rp.length]; exact h.1, fun l hl => ?_⟩
    obtain ⟨e, n⟩ := Ext.laidT f no hl (cutV xs lo hi) (rp.cut lo hi)
    exact k _ _ _ .fro _ e n h.2
  · exact h.elim
theorem part_ok {P : Option Int → Prop} {RP : Option Int → Hp → Prop} (ra : SRep K F H v a) (h : partD a P) (k : ∀ o, P o → RP o H) : partQ v H RP := by
  unfold partD at h
  split at h
  · obtain rfl := ra.int; exact k _ h
  · exact h.elim
def tyD : D → Value
  | .none => .type "NoneType"
  | .bool _ => .type "bool"
  | .int _ => .type "int"
  | .str _ => .type "str"
  | .list _ => .type "list"
  | .tuple _ => .type "tuple"
  | .dict _ => .type "dict"
theorem SRep.ty (f : Same F H) (ra : SRep K F H v a) : TyOf K H v (tyD a) ∨ TyQ K H v (tyD a) := by
  cases a with
  | none => obtain rfl := ra.none; exact .inl .non
  | bool b => obtain rfl := ra.bool; exact .inl (.bl _)
  | int b => obtain rfl := ra.int; exact .inl (.int _)
  | str b => obtain rfl := ra.str; exact .inl (.str _)
  | list ds =>
    obtain ⟨p, xs, rfl, hp, rp⟩ := ra.list f
    exact .inr (.inl ⟨p, xs, rfl, hp, rfl⟩)
  | tuple ds =>
    obtain ⟨p, xs, rfl, hp, rp⟩ := ra.tup f
    exact .inr (.inr ⟨p, xs, rfl, hp, rfl⟩)
  | dict _ => exact ra.nodict.elim
theorem kit_ok {n : String} {k : Bool} (h : isD n a = some k) (ht : isTyN n = true) : PySem.W.kitOne K (tyD a) (.type n) = some k := by
  simp only [isTyN, Bool.or_eq_true, beq_iff_eq] at ht
  rcases ht with ((((rfl | rfl) | rfl) | rfl) | rfl) | rfl <;> cases a <;> simp [isD] at h <;> subst h <;> rfl
theorem isi_ok {n : String} {k : Bool} (f : Same F H) (ra : SRep K F H v a) (h : isD n a = some k) (ht : isTyN n = true) (q : R (.bl k) H) : rIsI K [v, .ty n] H R :=
  ⟨tyD a, .type n, k, ra.ty f, rfl, kit_ok h ht, q⟩
theorem ArgsE.one {vs : List V} {p : D × Kd} (h : ArgsE K B F H vs [p]) : ∃ v, vs = [v] ∧ ArgR K B F H v p := by
  cases h with
  | cons h t => cases t; exact ⟨_, rfl, h⟩
theorem ArgsE.two {vs : List V} {p q : D × Kd} (h : ArgsE K B F H vs [p, q]) : ∃ v w, vs = [v, w] ∧ ArgR K B F H v p ∧ ArgR K B F H w q := by
  cases h with
  | cons h t =>
    cases t with
    | cons h2 t => cases t; exact ⟨_, _, rfl, h, h2⟩
theorem map_nil {ds : List (D × Kd)} (h : dsOf ds = []) : ds = [] := by
  cases ds with
  | nil => rfl
  | cons _ _ => simp [dsOf] at h
theorem map_one {ds : List (D × Kd)} {d : D} (h : dsOf ds = [d]) : ∃ l, ds = [(d, l)] := by
  match ds, h with
  | [(x, l)], h => simp [dsOf] at h; subst h; exact ⟨l, rfl⟩
theorem map_two {ds : List (D × Kd)} {d e : D} (h : dsOf ds = [d, e]) : ∃ l m, ds = [(d, l), (e, m)] := by
  match ds, h with
  | [(x, l), (y, m)], h => simp [dsOf] at h; obtain ⟨rfl, rfl⟩ := h; exact ⟨l, m, rfl⟩
theorem bi_okD {bi : Bi} {vs : List V} {ds : List (D × Kd)} (sb : Same B H) (f : Same F H) (no : NoO O F H) (ra : ArgsE K B F H vs ds) (h : biD bi (dsOf ds) Q) (k : Kont K B O F H Q R) : biR K bi vs H R := by
  generalize e : dsOf ds = dd at h
  unfold biD at h
  split at h
  · obtain ⟨l, rfl⟩ := map_one e
    obtain ⟨v, rfl, r, _⟩ := ra.one
    obtain rfl := r.str
    exact ⟨h.1, k _ F H .fro _ (no.refl f) (.int _) h.2⟩
  · obtain ⟨l, rfl⟩ := map_one e
    obtain ⟨v, rfl, r, _⟩ := ra.one
    obtain ⟨p, xs, rfl, hp, rp⟩ := r.list f
    exact .inl ⟨xs, hp, by rw [rp.length]; exact k _ F H .fro _ (no.refl f) (.int _) h⟩
  · obtain ⟨l, rfl⟩ := map_one e
    obtain ⟨v, rfl, r, _⟩ := ra.one
    obtain ⟨p, xs, rfl, hp, rp⟩ := r.tup f
    exact .inr ⟨xs, hp, by rw [rp.length]; exact k _ F H .fro _ (no.refl f) (.int _) h⟩
  · obtain ⟨l, rfl⟩ := map_one e
    obtain ⟨v, rfl, r, _⟩ := ra.one
    obtain ⟨bs, rfl, q⟩ := h
    obtain ⟨p, xs, rfl, hp, rp⟩ := r.list f
    obtain rfl := rp.bools
    exact ⟨bs, hp, k _ F H .fro _ (no.refl f) (.bl _) q⟩
  · obtain ⟨l, rfl⟩ := map_one e
    obtain ⟨v, rfl, r, _⟩ := ra.one
    obtain ⟨bs, rfl, q⟩ := h
    obtain ⟨p, xs, rfl, hp, rp⟩ := r.list f
    obtain rfl := rp.bools
    exact ⟨bs, hp, k _ F H .fro _ (no.refl f) (.bl _) q⟩
  · obtain ⟨l, rfl⟩ := map_one e
    obtain ⟨v, rfl, r, _⟩ := ra.one
    obtain rfl := r.int
    exact k _ F H .fro _ (no.refl f) (.int _) h
  · obtain ⟨l, rfl⟩ := map_one e
    obtain ⟨v, rfl, r, _⟩ := ra.one
    obtain rfl := r.bool
    exact k _ F H .fro _ (no.refl f) (.int _) h
  · obtain ⟨l, rfl⟩ := map_one e
    obtain ⟨v, rfl, r, _⟩ := ra.one
    obtain rfl := r.str
    obtain ⟨h1, n, h2, q⟩ := h
    exact ⟨h1, n, h2, k _ F H .fro _ (no.refl f) (.int _) q⟩
  · obtain ⟨l, rfl⟩ := map_one e
    obtain ⟨v, rfl, r, _⟩ := ra.one
    obtain rfl := r.int
    exact ⟨h.1, k _ F H .fro _ (no.refl f) (.str _) h.2⟩
  · obtain ⟨l, rfl⟩ := map_one e
    obtain ⟨v, rfl, r, _⟩ := ra.one
    obtain rfl := r.str
    exact k _ F H .fro _ (no.refl f) (.str _) h
  · exact h.elim
theorem mt_okD {m : Mt} {vs : List V} {ds : List (D × Kd)} (sb : Same B H) (f : Same F H) (no : NoO O F H) (rv : SRep K F H v a) (ra : ArgsE K B F H vs ds) (h : mtD m a (dsOf ds) Q) (k : Kont K B O F H Q R) : mtR K m v vs H R := by
  generalize e : dsOf ds = dd at h
  unfold mtD at h
  split at h
  · obtain ⟨l, rfl⟩ := map_one e
    obtain ⟨w, rfl, r, _⟩ := ra.one
    obtain rfl := rv.str
    obtain rfl := r.str
    refine ⟨h.1, h.2.1, h.2.2.1, fun p hp => ?_⟩
    obtain ⟨e, n⟩ := Ext.laid sb f no hp _ (Reps.map_str (K := K) (H := F) (Txt.split _ _))
    exact k _ _ _ .new _ e n h.2.2.2
  · obtain ⟨l, rfl⟩ := map_one e
    obtain ⟨w, rfl, r, _⟩ := ra.one
    obtain rfl := rv.str
    obtain rfl := r.str
    exact k _ F H .fro _ (no.refl f) (.int _) h
  · obtain rfl := map_nil e
    cases ra
    obtain rfl := rv.str
    exact ⟨h.1, k _ F H .fro _ (no.refl f) (.str _) h.2⟩
  · exact h.elim
theorem mt_ty {m : Mt} (f : Same F H) (rv : SRep K F H v a) (h : mtTy m a = true) : tyV K m.ty v H := by
  unfold mtTy at h
  split at h
  · obtain rfl := rv.str
    rfl
  · obtain rfl := rv.str
    rfl
  · obtain rfl := rv.str
    rfl
  · cases h
/-! ### what is walked -/
def ItR (K : PySem.W.Frag) (F : Hp) : Item → D → Prop
  | .one v, d => Rep K F v d
  | .tup vs, d => ∃ ds, d = .tuple ds ∧ Reps K F vs ds
theorem ItR.mono {F F' : Hp} (e : Same F F') {it : Item} {d : D} (h : ItR K F it d) : ItR K F' it d := by
  cases it with
  | one v => exact Rep.mono e h
  | tup vs => obtain ⟨ds, h1, h2⟩ := h; exact ⟨ds, h1, h2.mono e⟩
theorem its_of {xs : List V} {ds : List D} (r : Reps K F xs ds) : Paired (ItR K F) (xs.map .one) ds := by
  induction xs generalizing ds with
  | nil => cases r; exact .nil
  | cons x xs ih =>
    cases r with
    | cons h t => exact .cons h (ih t)
theorem its_map {α : Type} (f : α → V) (g : α → D) (h : ∀ x, Rep K F (f x) (g x)) : ∀ (l : List α), Paired (ItR K F) (l.map fun x => .one (f x)) (l.map g)
  | [] => .nil
  | x :: r => .cons (h x) (its_map f g h r)
theorem items_ok {ik : ItK} {vs : List V} {ds : List (D × Kd)} {RD : List D → Prop} {RR : List Item → (Hp → Prop) → Hp → Prop} (f : Same F H) (ra : ArgsE K B F H vs ds) (h : itemsD ik (dsOf ds) RD)
    (k : ∀ xs ys st, Paired (ItR K F) xs ys → (∀ H', Same H H' → st H') → RD ys → RR xs st H) : itemsR K ik vs H RR := by
  generalize e : dsOf ds = dd at h
  unfold itemsD at h
  split at h
  · obtain ⟨l, rfl⟩ := map_one e
    obtain ⟨v, rfl, r, _⟩ := ra.one
    obtain rfl := r.str
    exact k _ _ _ (its_map (fun c => .str ⟨#[c]⟩) (fun c => .str ⟨#[c]⟩) (fun c => .str _) _) (fun _ _ => trivial) h
  · obtain ⟨l, rfl⟩ := map_one e
    obtain ⟨v, rfl, r, _⟩ := ra.one
    obtain ⟨p, xs, rfl, hp, rp⟩ := r.list f
    exact .inl ⟨xs, hp, k _ _ _ (its_of rp) (fun H' s => s.seq hp) h⟩
  · obtain ⟨l, rfl⟩ := map_one e
    obtain ⟨v, rfl, r, _⟩ := ra.one
    obtain ⟨p, xs, rfl, hp, rp⟩ := r.tup f
    exact .inr ⟨xs, hp, k _ _ _ (its_of rp) (fun H' s => s.tupl hp) h⟩
  · obtain ⟨l, rfl⟩ := map_one e
    obtain ⟨v, rfl, r, _⟩ := ra.one
    obtain rfl := r.int
    exact ⟨h.1, k _ _ _ (its_map (fun (i : Nat) => .int (i : Int)) (fun (i : Nat) => .int (i : Int)) (fun c => .int _) _) (fun _ _ => trivial) h.2⟩
  · obtain ⟨l, m, rfl⟩ := map_two e
    obtain ⟨v, w, rfl, ⟨r, _⟩, ⟨r2, _⟩⟩ := ra.two
    obtain rfl := r.int
    obtain rfl := r2.int
    exact ⟨h.1, k _ _ _ (its_map (fun (c : Nat) => .int (_ + (c : Int))) (fun (c : Nat) => .int (_ + (c : Int))) (fun c => .int _) _) (fun _ _ => trivial) h.2⟩
  · exact h.elim
/-- the same, where what is walked lies in B, a part of H, or in F -/
theorem SRep.listB {ds : List D} (h : SRep K F B v (.list ds)) : ∃ a xs, v = .ref a ∧ (∀ H', Same B H' → Same F H' → SqL K H' a xs) ∧ Reps K F xs ds := by
  rcases h with h | ⟨a, xs, ds', rfl, e, h3, h4⟩
  · cases h with
    | lst h r => exact ⟨_, _, rfl, fun H' _ f => f.seq h, r⟩
  · cases e
    exact ⟨a, xs, rfl, fun H' b _ => b.seq h3, h4⟩
theorem SRep.tupB {ds : List D} (h : SRep K F B v (.tuple ds)) : ∃ a xs, v = .ref a ∧ (∀ H', Same F H' → SqT K H' a xs) ∧ Reps K F xs ds := by
  rcases h with h | ⟨a, xs, ds', rfl, e, h3, h4⟩
  · cases h with
    | tup h r => exact ⟨_, _, rfl, fun H' f => f.tupl h, r⟩
  · cases e
theorem items_okB {ik : ItK} {vs : List V} {ds : List (D × Kd)} {RD : List D → Prop} {RR : List Item → (Hp → Prop) → Hp → Prop} (sb : Same B H) (fh : Same F H) (ra : ArgsE K B F B vs ds) (h : itemsD ik (dsOf ds) RD)
    (k : ∀ xs ys st, Paired (ItR K F) xs ys → (∀ H', Same B H' → Same F H' → st H') → RD ys → RR xs st H) : itemsR K ik vs H RR := by
  generalize e : dsOf ds = dd at h
  unfold itemsD at h
  split at h
  · obtain ⟨l, rfl⟩ := map_one e
    obtain ⟨v, rfl, r, _⟩ := ra.one
    obtain rfl := r.str
    exact k _ _ _ (its_map (fun c => .str ⟨#[c]⟩) (fun c => .str ⟨#[c]⟩) (fun c => .str _) _) (fun _ _ _ => trivial) h
  · obtain ⟨l, rfl⟩ := map_one e
    obtain ⟨v, rfl, r, _⟩ := ra.one
    obtain ⟨p, xs, rfl, hp, rp⟩ := r.listB
    exact .inl ⟨xs, hp H sb fh, k _ _ _ (its_of rp) hp h⟩
  · obtain ⟨l, rfl⟩ := map_one e
    obtain ⟨v, rfl, r, _⟩ := ra.one
    obtain ⟨p, xs, rfl, hp, rp⟩ := r.tupB
    exact .inr ⟨xs, hp H fh, k _ _ _ (its_of rp) (fun H' _ f => hp H' f) h⟩
  · obtain ⟨l, rfl⟩ := map_one e
    obtain ⟨v, rfl, r, _⟩ := ra.one
    obtain rfl := r.int
    exact ⟨h.1, k _ _ _ (its_map (fun (i : Nat) => .int (i : Int)) (fun (i : Nat) => .int (i : Int)) (fun c => .int _) _) (fun _ _ _ => trivial) h.2⟩
  · obtain ⟨l, m, rfl⟩ := map_two e
    obtain ⟨v, w, rfl, ⟨r, _⟩, ⟨r2, _⟩⟩ := ra.two
    obtain rfl := r.int
    obtain rfl := r2.int
    exact ⟨h.1, k _ _ _ (its_map (fun (c : Nat) => .int (_ + (c : Int))) (fun (c : Nat) => .int (_ + (c : Int))) (fun c => .int _) _) (fun _ _ _ => trivial) h.2⟩
  · exact h.elim
end
end L2.L3

set_option Elab.async false
set_option linter.all false
set_option maxRecDepth 100000
set_option maxHeartbeats 800000
namespace L2.L3
open PySem PySem.Spec PyProof.Rows

section
variable {K : PySem.W.Frag} {Γ : Ev} {Ψ : PEv}
/-- what is promised of the reading of p -/
structure PSnd (K : PySem.W.Frag) (Γ : Ev) (Ψ : PEv) (p : PX) : Prop where
  e : ∀ {E : XE} {EK : XK} {B : Hp} {O : Addr → Prop} {F H : Hp} {ρ : PSt} {σ : St} {Q : DK} {R : VK}, EOk K B O F H ρ σ → XOk K O F H E EK → (pe Ψ p E).e ρ Q → Kont K B O F H Q R → (wp K Γ p EK).e σ H R
  t : ∀ {E : XE} {EK : XK} {B : Hp} {O : Addr → Prop} {F H : Hp} {ρ : PSt} {σ : St} {Q : Bool → Prop} {R : Bool → Hp → Prop}, EOk K B O F H ρ σ → XOk K O F H E EK → (pe Ψ p E).t ρ Q → KontB O F H Q R → (wp K Γ p EK).t σ H R
  a : ∀ {E : XE} {EK : XK} {B : Hp} {O : Addr → Prop} {F H : Hp} {ρ : PSt} {σ : St} {Q : List (D × Kd) → Prop} {R : List V → Hp → Prop}, EOk K B O F H ρ σ → XOk K O F H E EK → (pe Ψ p E).a ρ Q →
    (∀ vs ds F' H', Ext O F H F' H' → ArgsE K B F' H' vs ds → Q ds → R vs H') → (wp K Γ p EK).a σ H R
theorem EOk.keep {B : Hp} {O : Addr → Prop} {F H F' H' : Hp} {ρ : PSt} {σ : St} {k : Kd} {v : V} {d : D} (I : EOk K B O F H ρ σ) (e : Ext O F H F' H') (r : VRel K B O F' H' k v d) :
    ∃ F'', Ext O F H F'' H' ∧ SRep K F'' H' v d ∧ (k.esc = true → Rep K F'' v d) ∧ (k.isOwn = false → SRep K F'' B v d) := by
  obtain ⟨F'', e2, r1, r2⟩ := r.keep (I.sb.trans e.hh) e.fh e.no
  exact ⟨F'', e.trans e2, r1, r2⟩
/-- a value's truth behind its reading -/
theorem snd_tru {B : Hp} {O : Addr → Prop} {F H F' H' : Hp} {ρ : PSt} {σ : St} {k : Kd} {v : V} {d : D} {Q : Bool → Prop} {R : Bool → Hp → Prop} (I : EOk K B O F H ρ σ) (e : Ext O F H F' H') (r : VRel K B O F' H' k v d) (h : truD d Q) (kk : KontB O F H Q R) : truQ K v H' R := by
  obtain ⟨F2, e2, r1, _⟩ := I.keep e r
  exact tru_okD e2.fh r1 h fun c q => kk c F2 H' e2 q
theorem entOk {B : Hp} {O : Addr → Prop} {F H : Hp} {ρ : PSt} {σ : St} (I : EOk K B O F H ρ σ) (k : Nat) (mask : List Bool) : EOk K B O F H (entP k mask ρ) (entS k mask σ) := by
  have lp : ∀ (m : List Bool) (ρ : PSt), (maskP m ρ).length = ρ.length := by
    intro m
    induction m with
    | nil => intro ρ; cases ρ <;> rfl
    | cons b m ih =>
      intro ρ
      cases ρ with
      | nil => rfl
      | cons p ρ => simp [maskP, ih]
  refine ⟨I.sb, I.fh, I.no, by simp [entP, entS, lp, maskS_len, I.len], ?_⟩
  have key : ∀ (m : List Bool) (ρ : PSt) (σ : St), (∀ (i : Nat) s, ρ[i]? = some (some s) → ∃ v, σ[i]? = some (some v) ∧ SlE K B F H s v) → ∀ (i : Nat) s, (maskP m ρ)[i]? = some (some s) → ∃ v, (maskS m σ)[i]? = some (some v) ∧ SlE K B F H s v := by
    intro m
    induction m with
    | nil =>
      intro ρ σ h i s
      have e1 : maskP [] ρ = ρ := by cases ρ <;> rfl
      have e2 : maskS [] σ = σ := by cases σ <;> rfl
      rw [e1, e2]
      exact h i s
    | cons b m ih =>
      intro ρ σ h i s
      cases ρ with
      | nil => intro z; simp [maskP] at z
      | cons p ρ =>
        cases σ with
        | nil =>
          intro z
          exfalso
          cases i with
          | zero =>
            cases b with
            | true => simp [maskP] at z
            | false =>
              simp [maskP] at z
              obtain ⟨v, q, _⟩ := h 0 s (by simpa using z)
              simp at q
          | succ i =>
            simp only [maskP, List.getElem?_cons_succ] at z
            obtain ⟨v, q, _⟩ := ih ρ [] (fun j t hj => by
              obtain ⟨v, q, _⟩ := h (j + 1) t (by simpa using hj)
              simp at q) i s z
            simp [maskS] at q
        | cons w σ =>
          intro z
          cases i with
          | zero =>
            cases b with
            | true => simp [maskP] at z
            | false =>
              simp [maskP] at z
              obtain ⟨v, q, r⟩ := h 0 s (by simpa using z)
              exact ⟨v, by simpa [maskS] using q, r⟩
          | succ i =>
            simp only [maskP, List.getElem?_cons_succ] at z
            obtain ⟨v, q, r⟩ := ih ρ σ (fun j t hj => by
              obtain ⟨v, q, r⟩ := h (j + 1) t (by simpa using hj)
              exact ⟨v, by simpa using q, r⟩) i s z
            exact ⟨v, by simpa [maskS] using q, r⟩
  intro i s h
  unfold entP at h
  unfold entS
  rcases Nat.lt_or_ge i k with z | z
  · rw [List.getElem?_append_left (by simpa using z), List.getElem?_replicate] at h
    split at h <;> cases h
  · rw [List.getElem?_append_right (by simpa using z)] at h ⊢
    simp only [List.length_replicate] at h ⊢
    exact key mask ρ σ I.sl _ s h
theorem setE {B : Hp} {O : Addr → Prop} {F H : Hp} {ρ : PSt} {σ : St} (I : EOk K B O F H ρ σ) (i : Nat) {v : V} {d : D} (r : Rep K F v d) : EOk K B O F H (ρ.set i (some (.fro d))) (σ.set i (some v)) := by
  have hi := I.len
  refine ⟨I.sb, I.fh, I.no, by simpa using hi, fun j s h => ?_⟩
  rw [List.getElem?_set] at h ⊢
  by_cases e : i = j
  · subst e
    rw [if_pos rfl] at h ⊢
    by_cases hl : i < ρ.length
    · rw [if_pos hl] at h
      cases h
      rw [if_pos (by omega)]
      exact ⟨v, rfl, r⟩
    · rw [if_neg hl] at h
      cases h
  · rw [if_neg e] at h ⊢
    exact I.sl j s h
theorem setAllE {B : Hp} {O : Addr → Prop} {F H : Hp} : ∀ (is : List Nat) {vs : List V} {ds : List D} {ρ ρ' : PSt} {σ : St}, EOk K B O F H ρ σ → Reps K F vs ds → setAllD is ds ρ = some ρ' → ∃ σ', setAll is vs σ = some σ' ∧ EOk K B O F H ρ' σ'
  | [], _, _, ρ, ρ', σ, I, .nil, h => by
    simp only [setAllD, Option.some.injEq] at h
    subst h
    exact ⟨σ, rfl, I⟩
  | [], _, _, _, _, _, _, .cons _ _, h => by simp [setAllD] at h
  | _ :: _, _, _, _, _, _, _, .nil, h => by simp [setAllD] at h
  | i :: is, _, _, ρ, ρ', σ, I, .cons r t, h => by
    simp only [setAllD] at h
    obtain ⟨σ', h1, h2⟩ := setAllE is (setE I i r) t h
    exact ⟨σ', h1, h2⟩
theorem bind_ok {B : Hp} {O : Addr → Prop} {F H : Hp} {ρ : PSt} {σ : St} {tg : Tg} {it : Item} {d : D} {QP : PSt → Prop} {RP : St → Hp → Prop} (I : EOk K B O F H ρ σ) (r : ItR K F it d) (h : bindD tg d ρ QP)
    (k : ∀ ρ2 σ2 F2 H2, Ext O F H F2 H2 → EOk K B O F2 H2 ρ2 σ2 → QP ρ2 → RP σ2 H2) : bindI K tg it σ H RP := by
  cases it with
  | one v =>
    have r : Rep K F v d := r
    cases tg with
    | nm i => exact k _ _ F H I.refl (setE I i r) h
    | tp is =>
      cases r with
      | tup hp rp =>
        obtain ⟨ρ', e, q⟩ := h
        obtain ⟨σ', h1, h2⟩ := setAllE is I rp e
        exact ⟨_, σ', I.fh.tupl hp, h1, k ρ' σ' F H I.refl h2 q⟩
      | _ => exact h.elim
  | tup vs =>
    obtain ⟨ds, rfl, rp⟩ := r
    cases tg with
    | nm i =>
      intro p hp
      obtain ⟨e, n⟩ := Ext.laidT I.fh I.no hp vs rp
      exact k _ _ _ _ e (setE (I.ext e) i n) h
    | tp is =>
      intro H' s
      obtain ⟨ρ', e, q⟩ := h
      have ex : Ext O F H F H' := ⟨.refl _, s, I.fh.trans s, fun b hb => (I.no b hb).1⟩
      obtain ⟨σ', h1, h2⟩ := setAllE is (I.ext ex) rp e
      exact ⟨σ', h1, k ρ' σ' F H' ex h2 q⟩
end
end L2.L3

set_option Elab.async false
set_option linter.all false
set_option maxRecDepth 100000
set_option maxHeartbeats 1600000
namespace L2.L3
open PySem PySem.Spec PyProof.Rows

section
variable {K : PySem.W.Frag} {Γ : Ev} {Ψ : PEv} {E : XE} {EK : XK} {B : Hp} {O : Addr → Prop} {F H : Hp} {ρ : PSt} {σ : St}
theorem one_k {a : PX} (ia : PSnd K Γ Ψ a) (I : EOk K B O F H ρ σ) (X : XOk K O F H E EK) {P : D → Kd → Prop} {RR : V → Hp → Prop} (h : (pe Ψ a E).e ρ P)
    (kk : ∀ v F' H' x k, Ext O F H F' H' → EOk K B O F' H' ρ σ → XOk K O F' H' E EK → SRep K F' H' v x → ((k.esc = true → Rep K F' v x) ∧ (k.isOwn = false → SRep K F' B v x)) → P x k → RR v H') : (wp K Γ a EK).e σ H RR := by
  refine ia.e I X h fun v F1 H1 k1 d1 e1 r1 h1 => ?_
  obtain ⟨F2, e2, s, r⟩ := I.keep e1 r1
  exact kk v F2 H1 d1 k1 e2 (I.ext e2) (X.ext e2) s r h1
theorem one_ok {a : PX} (ia : PSnd K Γ Ψ a) (I : EOk K B O F H ρ σ) (X : XOk K O F H E EK) {P : D → Prop} {RR : V → Hp → Prop} (h : (pe Ψ a E).e ρ fun x _ => P x)
    (kk : ∀ v F' H' x, Ext O F H F' H' → EOk K B O F' H' ρ σ → XOk K O F' H' E EK → SRep K F' H' v x → P x → RR v H') : (wp K Γ a EK).e σ H RR :=
  one_k ia I X h fun v F' H' x _ e1 e2 e3 s _ p => kk v F' H' x e1 e2 e3 s p
theorem two_ok {a b : PX} (ia : PSnd K Γ Ψ a) (ib : PSnd K Γ Ψ b) (I : EOk K B O F H ρ σ) (X : XOk K O F H E EK) {P : D → D → Prop} {RR : V → V → Hp → Prop} (h : (pe Ψ a E).e ρ fun x _ => (pe Ψ b E).e ρ fun y _ => P x y)
    (kk : ∀ v w F' H' x y, Ext O F H F' H' → EOk K B O F' H' ρ σ → XOk K O F' H' E EK → SRep K F' H' v x → SRep K F' H' w y → P x y → RR v w H') :
    (wp K Γ a EK).e σ H fun v H1 => (wp K Γ b EK).e σ H1 fun w H2 => RR v w H2 := by
  refine one_ok ia I X h fun v F1 H1 x e1 I1 X1 s1 h1 => ?_
  refine one_ok ib I1 X1 h1 fun w F2 H2 y e2 I2 X2 s2 h2 => ?_
  exact kk v w F2 H2 x y (e1.trans e2) I2 X2 (s1.ext e2.ff e2.hh) s2 h2
theorem Kont.ext {F' H' : Hp} {Q : DK} {R : VK} (k : Kont K B O F H Q R) (e : Ext O F H F' H') : Kont K B O F' H' Q R := fun v F2 H2 k2 d e2 r q => k v F2 H2 k2 d (e.trans e2) r q
theorem KontB.ext {F' H' : Hp} {Q : Bool → Prop} {R : Bool → Hp → Prop} (k : KontB O F H Q R) (e : Ext O F H F' H') : KontB O F' H' Q R := fun v F2 H2 e2 q => k v F2 H2 (e.trans e2) q
/-- a truth from a value -/
theorem t_of_e {a : PX} (ia : ∀ {Q : DK} {R : VK}, (pe Ψ a E).e ρ Q → Kont K B O F H Q R → (wp K Γ a EK).e σ H R) (I : EOk K B O F H ρ σ) {Q : Bool → Prop} {R : Bool → Hp → Prop} (h : (pe Ψ a E).e ρ fun d _ => truD d Q) (k : KontB O F H Q R) :
    (wp K Γ a EK).e σ H fun x H1 => truQ K x H1 R := ia h fun v F' H' kd d e r q => snd_tru I e r q k
theorem args_k {as : PX} (ia : PSnd K Γ Ψ as) (I : EOk K B O F H ρ σ) (X : XOk K O F H E EK) {P : List (D × Kd) → Prop} {RR : List V → Hp → Prop} (h : (pe Ψ as E).a ρ P)
    (kk : ∀ vs F' H' ds, Ext O F H F' H' → EOk K B O F' H' ρ σ → XOk K O F' H' E EK → ArgsE K B F' H' vs ds → P ds → RR vs H') : (wp K Γ as EK).a σ H RR :=
  ia.a I X h fun vs ds F' H' e r q => kk vs F' H' ds e (I.ext e) (X.ext e) r q
theorem XOk.never : XOk K O F H (fun _ => False) (fun _ _ _ => False) := fun _ _ _ _ _ _ z => z
theorem Paired.get_of {α β : Type} {R : α → β → Prop} {xs : List α} {ys : List β} (h : Paired R xs ys) : ∀ {i : Nat} {x : α}, xs[i]? = some x → ∃ y, ys.drop i = y :: ys.drop (i + 1) ∧ R x y := by
  induction h with
  | nil => intro i x e; simp at e
  | @cons x y xs ys h t ih =>
    intro i z e
    cases i with
    | zero => simp at e; subst e; exact ⟨y, by simp, h⟩
    | succ i =>
      obtain ⟨y', h1, h2⟩ := ih (i := i) (by simpa using e)
      exact ⟨y', by simpa using h1, h2⟩
theorem Paired.imp' {α β : Type} {R S : α → β → Prop} {xs : List α} {ys : List β} (h : Paired R xs ys) (k : ∀ x y, R x y → S x y) : Paired S xs ys := by
  induction h with
  | nil => exact .nil
  | cons h _ ih => exact .cons (k _ _ h) ih
/-- a comprehension -/
theorem comp_okD {mask : List Bool} {k0 : Nat} {tg : Tg} {c : PSt → (Bool → Prop) → Prop} {e : PSt → DK → Prop} {tc : TT} {te : TE}
    (ic : ∀ {F H : Hp} {ρ : PSt} {σ : St} {Q : Bool → Prop} {R : Bool → Hp → Prop}, EOk K B O F H ρ σ → c ρ Q → KontB O F H Q R → tc σ H R)
    (ie : ∀ {F H : Hp} {ρ : PSt} {σ : St} {Q : DK} {R : VK}, EOk K B O F H ρ σ → e ρ Q → Kont K B O F H Q R → te σ H R)
    (I : EOk K B O F H ρ σ) {xs : List Item} {ys : List D} {st : Hp → Prop} (pr : Paired (ItR K F) xs ys) (hst : ∀ H', Same H H' → st H') {Q : DK} {R : VK}
    (h : compD (compBody tg (entP k0 mask ρ) c e) ys [] fun ys => Q (.list ys) .new) (k : Kont K B O F H Q R) :
    CompB K xs st tg tc te (entS k0 mask σ) H R := by
  refine compB_of ?_
  have len := Paired.length pr
  refine ⟨fun i acc H' => ∃ F' dacc, Ext O F H F' H' ∧ Reps K F' acc dacc ∧ compD (compBody tg (entP k0 mask ρ) c e) (ys.drop i) dacc fun ys => Q (.list ys) .new, ⟨F, [], I.refl, .nil, by simpa using h⟩, ?_, ?_, ?_⟩
  · rintro i acc H' _ ⟨F', dacc, e, _, _⟩
    exact hst H' e.hh
  · rintro i x acc H1 hx ⟨F1, dacc, e1, ra, hc⟩
    obtain ⟨y, hd, ry⟩ := Paired.get_of pr hx
    rw [hd] at hc
    unfold compD at hc
    unfold compBody at hc
    have I1 := entOk (I.ext e1) k0 mask
    refine bind_ok I1 (ry.mono e1.ff) hc fun ρ2 σ2 F2 H2 e2 I2 hc => ?_
    refine ic I2 hc fun b F3 H3 e3 q => ?_
    have e123 := e1.trans (e2.trans e3)
    cases b with
    | false => exact ⟨F3, dacc, e123, (ra.mono e2.ff).mono e3.ff, q⟩
    | true =>
      have I3 := I2.ext e3
      refine ie I3 q fun v F4 H4 kd z e4 r4 ⟨hk, hl, hc⟩ => ?_
      obtain ⟨F5, e5, _, r, _⟩ := I3.keep e4 r4
      exact ⟨by rw [ra.length]; exact hl, F5, _, e123.trans e5, Reps.append (((ra.mono e2.ff).mono e3.ff).mono e5.ff) (.cons (r hk) .nil), hc⟩
  · rintro acc H' ⟨F', dacc, e, ra, hc⟩
    rw [len, List.drop_length] at hc
    unfold compD at hc
    refine ⟨by rw [ra.length]; exact hc.1, fun p hp => ?_⟩
    obtain ⟨e2, n⟩ := Ext.laid (I.ext e).sb e.fh (I.ext e).no hp acc ra
    exact k _ _ _ .new _ (e.trans e2) n hc.2
end
end L2.L3

set_option Elab.async false
set_option linter.all false
set_option maxRecDepth 100000
set_option maxHeartbeats 1600000
namespace L2.L3
open PySem PySem.Spec PyProof.Rows

section
variable {K : PySem.W.Frag} {Γ : Ev} {Ψ : PEv}
/-- a reading whose truth is its value's truth -/
theorem PSnd.of_e {p : PX} (ht : ∀ E ρ Q, (pe Ψ p E).t ρ Q = (pe Ψ p E).e ρ fun d _ => truD d Q) (ht' : ∀ EK σ H R, (wp K Γ p EK).t σ H R = (wp K Γ p EK).e σ H fun x H1 => truQ K x H1 R) (ha : ∀ E, (pe Ψ p E).a = nev.a)
    (he : ∀ {E : XE} {EK : XK} {B : Hp} {O : Addr → Prop} {F H : Hp} {ρ : PSt} {σ : St} {Q : DK} {R : VK}, EOk K B O F H ρ σ → XOk K O F H E EK → (pe Ψ p E).e ρ Q → Kont K B O F H Q R → (wp K Γ p EK).e σ H R) : PSnd K Γ Ψ p where
  e := he
  t := fun I X h k => by
    rw [ht] at h
    rw [ht']
    exact he I X h fun v F' H' kd d e r q => snd_tru I e r q k
  a := fun I X h k => by rw [ha] at h; exact h.elim
theorem PSnd.of_0 {p : PX} (ht : ∀ E, (pe Ψ p E).t = nev.t) (ha : ∀ E, (pe Ψ p E).a = nev.a)
    (he : ∀ {E : XE} {EK : XK} {B : Hp} {O : Addr → Prop} {F H : Hp} {ρ : PSt} {σ : St} {Q : DK} {R : VK}, EOk K B O F H ρ σ → XOk K O F H E EK → (pe Ψ p E).e ρ Q → Kont K B O F H Q R → (wp K Γ p EK).e σ H R) : PSnd K Γ Ψ p where
  e := he
  t := fun I X h k => by rw [ht] at h; exact h.elim
  a := fun I X h k => by rw [ha] at h; exact h.elim
/-- a reading that is a truth -/
theorem PSnd.of_t {p : PX} (ht : ∀ E ρ Q, (pe Ψ p E).e ρ Q = (pe Ψ p E).t ρ fun b => Q (.bool b) .fro) (ht' : ∀ EK σ H R, (wp K Γ p EK).t σ H R = (wp K Γ p EK).e σ H fun x H1 => asB x H1 R) (ha : ∀ E, (pe Ψ p E).a = nev.a)
    (he : ∀ {E : XE} {EK : XK} {B : Hp} {O : Addr → Prop} {F H : Hp} {ρ : PSt} {σ : St} {Q : Bool → Prop} {R : VK}, EOk K B O F H ρ σ → XOk K O F H E EK → (pe Ψ p E).t ρ Q → (∀ b F' H', Ext O F H F' H' → Q b → R (.bl b) H') → (wp K Γ p EK).e σ H R) : PSnd K Γ Ψ p where
  e := fun I X h k => by
    rw [ht] at h
    exact he I X h fun b F' H' e q => k _ F' H' .fro _ e (.bl b) q
  t := fun I X h k => by
    rw [ht']
    exact he I X h fun b F' H' e q => k b F' H' e q
  a := fun I X h k => by rw [ha] at h; exact h.elim
theorem psnd (g : GOk K Γ Ψ) : ∀ (p : PX), PSnd K Γ Ψ p
  | .var i => .of_e (fun _ _ _ => rfl) (fun _ _ _ _ => rfl) (fun _ => rfl) fun {E EK B O F H ρ σ Q R} I X h k => by
    have h2 : rdV ρ[i]? Q := h
    clear h
    show (match σ[i]? with | some (some v) => R v H | _ => False)
    match e : ρ[i]?, h2 with
    | some (some (.fro d)), h2 =>
      obtain ⟨v, h1, h3⟩ := I.sl i _ e
      rw [h1]
      exact k v F H .fro d I.refl h3 h2
    | some (some (.own d)), h2 =>
      obtain ⟨v, h1, h3⟩ := I.sl i _ e
      rw [h1]
      exact k v F H .own d I.refl h3 h2
    | some (some (.bor d)), h2 =>
      obtain ⟨v, h1, h3⟩ := I.sl i _ e
      rw [h1]
      exact k v F H .bor d I.refl h3 h2
    | some none, h2 => exact h2.elim
    | none, h2 => exact h2.elim
  | .int i => ⟨fun I X h k => k _ _ _ .fro _ I.refl (.int i) h, fun I X h k => k _ _ _ I.refl h, fun I X h k => h.elim⟩
  | .str x => ⟨fun I X h k => k _ _ _ .fro _ I.refl (.str x) h, fun I X h k => h.elim, fun I X h k => h.elim⟩
  | .bl b => ⟨fun I X h k => k _ _ _ .fro _ I.refl (.bl b) h, fun I X h k => k _ _ _ I.refl h, fun I X h k => h.elim⟩
  | .non => ⟨fun I X h k => k _ _ _ .fro _ I.refl .non h, fun I X h k => k _ _ _ I.refl h, fun I X h k => h.elim⟩
  | .glo x => .of_e (fun _ _ _ => rfl) (fun _ _ _ _ => rfl) (fun _ => rfl) fun {E EK B O F H ρ σ Q R} I X h k => by
    have h : (match Ψ.va x with | some d => Q d .fro | none => False) := h
    split at h
    · rename_i d e
      exact k _ F H .fro d I.refl (g.va x d e F) h
    · exact h.elim
  | .bty _ _ => ⟨fun I X h k => h.elim, fun I X h k => h.elim, fun I X h k => h.elim⟩
  | .bin op a b => .of_e (fun _ _ _ => rfl) (fun _ _ _ _ => rfl) (fun _ => rfl) fun {E EK B O F H ρ σ Q R} I X h k =>
    two_ok (RR := fun x y H2 => binR K op x y H2 R) (psnd g a) (psnd g b) I X h fun v w F' H' x y e I' X' s1 s2 q => bin_ok I'.sb e.fh I'.no s1 s2 q (k.ext e)
  | .neg a => .of_0 (fun _ => rfl) (fun _ => rfl) fun {E EK B O F H ρ σ Q R} I X h k => by
    refine one_ok (P := fun x => match x with | .int i => Q (.int (-i)) .fro | _ => False) (psnd g a) I X h fun v F' H' x e I' X' s q => ?_
    split at q
    · obtain rfl := s.int
      exact k _ F' H' .fro _ e (.int _) q
    · exact q.elim
  | .cmp op a b => .of_t (fun _ _ _ => rfl) (fun _ _ _ _ => rfl) (fun _ => rfl) fun {E EK B O F H ρ σ Q R} I X h k =>
    two_ok (RR := fun x y H2 => cmpR K op x y H2 R) (psnd g a) (psnd g b) I X h fun v w F' H' x y e I' X' s1 s2 q => cmp_ok (O := O) e.fh I'.no s1 s2 q fun c qc => k c F' H' e qc
  | .chn o p a b c => .of_t (fun _ _ _ => rfl) (fun _ _ _ _ => rfl) (fun _ => rfl) fun {E EK B O F H ρ σ Q R} I X h k =>
    two_ok (P := fun x y => cmpD o x y fun k => if k = true then (pe Ψ c E).e ρ fun z _ => cmpD p y z Q else Q false) (RR := fun x y H2 => cmpR K o x y H2 fun z H3 => asB z H3 fun k H4 => if k = true then (wp K Γ c EK).e σ H4 fun w' H5 => cmpR K p y w' H5 R else R (.bl false) H4) (psnd g a) (psnd g b) I X h
      fun v w F' H' x y e I' X' s1 s2 q => cmp_ok (O := O) (R := fun z H3 => asB z H3 fun k H4 => if k = true then (wp K Γ c EK).e σ H4 fun w' H5 => cmpR K p w w' H5 R else R (.bl false) H4) e.fh I'.no s1 s2 q fun kb qc => by
        cases kb with
        | false => exact k false F' H' e qc
        | true =>
          refine one_ok (P := fun z => cmpD p y z Q) (RR := fun w' H5 => cmpR K p w w' H5 R) (psnd g c) I' X' qc fun z F2 H2 zd e2 I2 X2 s3 q3 => ?_
          exact cmp_ok (O := O) e2.fh I2.no (s2.ext e2.ff e2.hh) s3 q3 fun cb qb => k cb F2 H2 (e.trans e2) qb
  | .and a b => ⟨fun {E EK B O F H ρ σ Q R} I X h k => by
      refine one_ok (P := fun x => asD x fun c => if c = true then (pe Ψ b E).e ρ Q else Q (.bool false) .fro) (RR := fun x H1 => asB x H1 fun c H2 => if c = true then (wp K Γ b EK).e σ H2 R else R (.bl false) H2) (psnd g a) I X h fun v F' H' x e I' X' s q => ?_
      refine as_okD s q fun c qc => ?_
      cases c with
      | false => exact k _ F' H' .fro _ e (.bl false) qc
      | true => exact (psnd g b).e I' X' qc (k.ext e),
    fun {E EK B O F H ρ σ Q R} I X h k => by
      refine (psnd g a).t (Q := fun c => if c = true then (pe Ψ b E).t ρ Q else Q false) (R := fun c H1 => if c = true then (wp K Γ b EK).t σ H1 R else R false H1) I X h fun c F' H' e qc => ?_
      cases c with
      | false => exact k _ F' H' e qc
      | true => exact (psnd g b).t (I.ext e) (X.ext e) qc (KontB.ext k e), fun I X h k => h.elim⟩
  | .or a b => ⟨fun {E EK B O F H ρ σ Q R} I X h k => by
      refine one_ok (P := fun x => asD x fun c => if c = true then Q (.bool true) .fro else (pe Ψ b E).e ρ Q) (RR := fun x H1 => asB x H1 fun c H2 => if c = true then R (.bl true) H2 else (wp K Γ b EK).e σ H2 R) (psnd g a) I X h fun v F' H' x e I' X' s q => ?_
      refine as_okD s q fun c qc => ?_
      cases c with
      | true => exact k _ F' H' .fro _ e (.bl true) qc
      | false => exact (psnd g b).e I' X' qc (k.ext e),
    fun {E EK B O F H ρ σ Q R} I X h k => by
      refine (psnd g a).t (Q := fun c => if c = true then Q true else (pe Ψ b E).t ρ Q) (R := fun c H1 => if c = true then R true H1 else (wp K Γ b EK).t σ H1 R) I X h fun c F' H' e qc => ?_
      cases c with
      | true => exact k _ F' H' e qc
      | false => exact (psnd g b).t (I.ext e) (X.ext e) qc (KontB.ext k e), fun I X h k => h.elim⟩
  | .not a => ⟨fun {E EK B O F H ρ σ Q R} I X h k => by
      refine one_ok (P := fun x => truD x fun c => Q (.bool (!c)) .fro) (RR := fun x H1 => truQ K x H1 fun c H2 => R (.bl (!c)) H2) (psnd g a) I X h fun v F' H' x e I' X' s q => ?_
      exact tru_okD e.fh s q fun c qc => k _ F' H' .fro _ e (.bl _) qc,
    fun {E EK B O F H ρ σ Q R} I X h k => (psnd g a).t (Q := fun c => Q (!c)) (R := fun c H1 => R (!c) H1) I X h fun c F' H' e qc => k _ F' H' e qc, fun I X h k => h.elim⟩
  | .ife c a b => .of_0 (fun _ => rfl) (fun _ => rfl) fun {E EK B O F H ρ σ Q R} I X h k => by
    refine (psnd g c).t (Q := fun k => if k = true then (pe Ψ a E).e ρ Q else (pe Ψ b E).e ρ Q) (R := fun k H1 => if k = true then (wp K Γ a EK).e σ H1 R else (wp K Γ b EK).e σ H1 R) I X h fun c F' H' e qc => ?_
    cases c with
    | true => exact (psnd g a).e (I.ext e) (X.ext e) qc (k.ext e)
    | false => exact (psnd g b).e (I.ext e) (X.ext e) qc (k.ext e)
  | .call f as => .of_e (fun _ _ _ => rfl) (fun _ _ _ _ => rfl) (fun _ => rfl) fun {E EK B O F H ρ σ Q R} I X h k => by
    refine args_k (P := fun (ds : List (D × Kd)) => lentB (lsOf ds) (Ψ.sp f).md = true ∧ (Ψ.sp f).run (dsOf ds) (fun d => Q d (if (Ψ.sp f).nw = true then .new else .fro)) E) (RR := fun vs H1 => Γ.sp f vs H1 R EK) (psnd g as) I X h fun vs F' H' ds e I' X' r q => ?_
    refine g.sp f vs H' R EK ⟨O, F', dsOf ds, e.fh, I'.no, r.of_lent q.1, ?_⟩
    exact (Ψ.sp f).mono (fun d qd v F2 H2 e2 r2 => k v F2 H2 _ d (e.trans e2) (r2.base I'.sb (fun _ z => z) (rtK_esc _)) qd) (fun x qx dx F2 H2 e2 r2 => X' x dx F2 H2 e2 r2 qx) q.2
  | .isi a c => by
    have key : ∀ {E : XE} {EK : XK} {B : Hp} {O : Addr → Prop} {F H : Hp} {ρ : PSt} {σ : St} {Q : Bool → Prop} {R : VK}, EOk K B O F H ρ σ → XOk K O F H E EK → (pe Ψ (.isi a c) E).t ρ Q → (∀ b F' H', Ext O F H F' H' → Q b → R (.bl b) H') → (wp K Γ (.isi a c) EK).e σ H R := by
      intro E EK B O F H ρ σ Q R I X h k
      refine one_ok (P := fun d => isiD c d Q) (psnd g a) I X h fun v F' H' x e I' X' s q => ?_
      cases c with
      | bty z n =>
        obtain ⟨b, h1, h2, q⟩ := q
        exact isi_ok (F := F') e.fh s h1 h2 (k b F' H' e q)
      | _ => exact q.elim
    exact ⟨fun I X h k => key I X h fun b F' H' e q => k _ F' H' .fro _ e (.bl b) q, fun I X h k => key I X h fun b F' H' e q => k b F' H' e q, fun I X h k => h.elim⟩
  | .bi f as => .of_e (fun _ _ _ => rfl) (fun _ _ _ _ => rfl) (fun _ => rfl) fun {E EK B O F H ρ σ Q R} I X h k =>
    args_k (P := fun (ds : List (D × Kd)) => biD f (dsOf ds) Q) (RR := fun vs H1 => biR K f vs H1 R) (psnd g as) I X h fun vs F' H' ds e I' X' r q => bi_okD I'.sb e.fh I'.no r q (k.ext e)
  | .mt m o as => .of_e (fun _ _ _ => rfl) (fun _ _ _ _ => rfl) (fun _ => rfl) fun {E EK B O F H ρ σ Q R} I X h k => by
    refine one_ok (P := fun x => mtTy m x = true ∧ (pe Ψ as E).a ρ fun ds => mtD m x (dsOf ds) Q) (RR := fun x H1 => tyV K m.ty x H1 ∧ (wp K Γ as EK).a σ H1 fun vs H2 => mtR K m x vs H2 R) (psnd g o) I X h fun v F' H' x e I' X' s q => ?_
    refine ⟨mt_ty e.fh s q.1, ?_⟩
    exact args_k (P := fun ds => mtD m x (dsOf ds) Q) (RR := fun vs H2 => mtR K m v vs H2 R) (psnd g as) I' X' q.2 fun vs F2 H2 ds e2 I2 X2 r q => mt_okD I2.sb e2.fh I2.no (s.ext e2.ff e2.hh) r q (k.ext (e.trans e2))
  | .idx a b => .of_e (fun _ _ _ => rfl) (fun _ _ _ _ => rfl) (fun _ => rfl) fun {E EK B O F H ρ σ Q R} I X h k =>
    two_ok (RR := fun x y H2 => rIxU K x y H2 R) (psnd g a) (psnd g b) I X h fun v w F' H' x y e I' X' s1 s2 q => idx_ok e.fh I'.no s1 s2 q (k.ext e)
  | .slc a lo hi => .of_0 (fun _ => rfl) (fun _ => rfl) fun {E EK B O F H ρ σ Q R} I X h k => by
    have part : ∀ (p : PX), PSnd K Γ Ψ p → ∀ {F H : Hp} {P : Option Int → Prop} {RP : Option Int → Hp → Prop}, EOk K B O F H ρ σ → XOk K O F H E EK →
        (if isNop p = true then fun (R : Option Int → Prop) => R none else fun R => (pe Ψ p E).e ρ fun l _ => partD l R) P → (∀ o F' H', Ext O F H F' H' → P o → RP o H') →
        (if isNop p = true then fun (R : Option Int → Hp → Prop) => R none H else fun R => (wp K Γ p EK).e σ H fun l H2 => partQ l H2 R) RP := by
      intro p ip F H P RP I X h k
      cases hn : isNop p with
      | true =>
        simp only [hn, if_true] at h ⊢
        exact k none F H I.refl h
      | false =>
        simp only [hn, Bool.false_eq_true, if_false] at h ⊢
        exact one_ok ip I X h fun v F' H' x e I' X' s q => part_ok s q fun o qo => k o F' H' e qo
    refine one_ok (P := fun x => (if isNop lo = true then fun (R : Option Int → Prop) => R none else fun R => (pe Ψ lo E).e ρ fun l _ => partD l R) fun l =>
      (if isNop hi = true then fun (R : Option Int → Prop) => R none else fun R => (pe Ψ hi E).e ρ fun u _ => partD u R) fun u => slcD x l u Q) (psnd g a) I X h fun v F1 H1 x e1 I1 X1 s1 h1 => ?_
    refine part lo (psnd g lo) I1 X1 h1 fun l F2 H2 e2 h2 => ?_
    refine part hi (psnd g hi) (I1.ext e2) (X1.ext e2) h2 fun u F3 H3 e3 h3 => ?_
    have e23 := e2.trans e3
    exact slc_ok (I1.ext e23).sb e3.fh (I1.ext e23).no (s1.ext e23.ff e23.hh) h3 (k.ext (e1.trans e23))
  | .nop => ⟨fun I X h k => h.elim, fun I X h k => h.elim, fun I X h k => h.elim⟩
  | .lst as => .of_0 (fun _ => rfl) (fun _ => rfl) fun {E EK B O F H ρ σ Q R} I X h k => by
    refine args_k (P := fun (ds : List (D × Kd)) => escB ds = true ∧ ds.length ≤ sizeLine ∧ Q (.list (dsOf ds)) .new) (RR := fun xs H1 => xs.length ≤ sizeLine ∧ ∀ p, H1 p = none → R (.ref p) (upd H1 p (.lst xs))) (psnd g as) I X h fun vs F' H' ds e I' X' r q => ?_
    refine ⟨by rw [r.length]; exact q.2.1, fun p hp => ?_⟩
    obtain ⟨e2, n⟩ := Ext.laid I'.sb e.fh I'.no hp vs (r.reps q.1)
    exact k _ _ _ .new _ (e.trans e2) n q.2.2
  | .tup as => .of_0 (fun _ => rfl) (fun _ => rfl) fun {E EK B O F H ρ σ Q R} I X h k => by
    refine args_k (P := fun (ds : List (D × Kd)) => escB ds = true ∧ ds.length ≤ sizeLine ∧ Q (.tuple (dsOf ds)) .fro) (RR := fun xs H1 => xs.length ≤ sizeLine ∧ ∀ p, H1 p = none → R (.ref p) (upd H1 p (.tup xs))) (psnd g as) I X h fun vs F' H' ds e I' X' r q => ?_
    refine ⟨by rw [r.length]; exact q.2.1, fun p hp => ?_⟩
    obtain ⟨e2, n⟩ := Ext.laidT e.fh I'.no hp vs (r.reps q.1)
    exact k _ _ _ .fro _ (e.trans e2) n q.2.2
  | .comp mask tgs tg ik its cond elt => .of_0 (fun _ => rfl) (fun _ => rfl) fun {E EK B O F H ρ σ Q R} I X h k => by
    refine args_k (P := fun ds => itemsD ik (dsOf ds) fun xs =>
      compD (compBody tg (entP tgs.length mask ρ) (if isNop cond = true then fun _ R => R true else (pe Ψ cond (fun _ => False)).t) (pe Ψ elt (fun _ => False)).e) xs [] fun ys => Q (.list ys) .new)
      (RR := fun vs H1 => itemsR K ik vs H1 fun xs st H2 => CompB K xs st tg (if isNop cond = true then fun _ H Q => Q true H else (wp K Γ cond (fun _ _ _ => False)).t) (wp K Γ elt (fun _ _ _ => False)).e (entS tgs.length mask σ) H2 R) (psnd g its) I X h fun vs F1 H1 ds e1 I1 X1 r1 h1 => ?_
    refine items_ok e1.fh r1 h1 fun xs ys st pr hst hc => ?_
    refine comp_okD ?_ ?_ I1 pr hst hc (k.ext e1)
    · intro F H ρ σ Q R I h k
      cases hn : isNop cond with
      | true =>
        simp only [hn, if_true] at h ⊢
        exact k true F H I.refl h
      | false =>
        simp only [hn, Bool.false_eq_true, if_false] at h ⊢
        exact (psnd g cond).t I XOk.never h k
    · intro F H ρ σ Q R I h k
      exact (psnd g elt).e I XOk.never h k
  | .anil => ⟨fun I X h k => h.elim, fun I X h k => h.elim, fun I X h k => k [] [] _ _ I.refl .nil h⟩
  | .acons a as => ⟨fun I X h k => h.elim, fun I X h k => h.elim, fun {E EK B O F H ρ σ Q R} I X h k => by
    refine one_k (P := fun x k => (pe Ψ as E).a ρ fun xs => Q ((x, k) :: xs)) (RR := fun x H1 => (wp K Γ as EK).a σ H1 fun xs H2 => R (x :: xs) H2) (psnd g a) I X h fun v F' H' x kd e I' X' s r q => ?_
    refine (psnd g as).a I' X' q fun vs ds F2 H2 e2 rs q2 => ?_
    refine k (v :: vs) _ F2 H2 (e.trans e2) (.cons ⟨s.ext e2.ff e2.hh, fun z => (r.1 z).mono e2.ff, fun z => (r.2 z).ext e2.ff (.refl _)⟩ rs) q2⟩
end
end L2.L3

set_option Elab.async false
set_option linter.all false
set_option maxRecDepth 100000
set_option maxHeartbeats 1600000
namespace L2.L3
open PySem PySem.Spec PyProof.Rows

def OwnO (O0 : Addr → Prop) (ρ : PSt) (σ : St) (b : Addr) : Prop := O0 b ∨ ∃ (i : Nat) (d : D), ρ[i]? = some (some (.own d)) ∧ σ[i]? = some (some (.ref b))
/-- H0: the heap at the start; β: where the lent ones lie -/
def SlP (K : PySem.W.Frag) (β : Nat → Option (Addr × List V)) (H0 F H : Hp) (i : Nat) : Sl → V → Prop
  | .fro d, v => Rep K F v d
  | .bor d, v => ∃ a xs ds, v = .ref a ∧ d = .list ds ∧ β i = some (a, xs) ∧ Reps K F xs ds
  | .own d, v => ∃ a xs ds, v = .ref a ∧ d = .list ds ∧ H a = some (.lst xs) ∧ F a = none ∧ H0 a = none ∧ Reps K F xs ds
structure PInv (K : PySem.W.Frag) (β : Nat → Option (Addr × List V)) (O0 : Addr → Prop) (F0 H0 F H : Hp) (ρ : PSt) (σ : St) : Prop where
  ext : Ext O0 F0 H0 F H
  oh : ∀ b, O0 b → H0 b ≠ none
  bs : ∀ (i : Nat) a xs, β i = some (a, xs) → SqL K H0 a xs
  len : ρ.length = σ.length
  sl : ∀ (i : Nat) s, ρ[i]? = some (some s) → ∃ v, σ[i]? = some (some v) ∧ SlP K β H0 F H i s v
  nd : ∀ (i j : Nat) a d d', ρ[i]? = some (some (.own d)) → ρ[j]? = some (some (.own d')) → σ[i]? = some (some (.ref a)) → σ[j]? = some (some (.ref a)) → i = j
section
variable {K : PySem.W.Frag} {β : Nat → Option (Addr × List V)} {O0 : Addr → Prop} {F0 H0 F H F' H' : Hp} {ρ : PSt} {σ : St}
theorem PInv.eok (I : PInv K β O0 F0 H0 F H ρ σ) : EOk K H0 (OwnO O0 ρ σ) F H ρ σ where
  sb := I.ext.hh
  fh := I.ext.fh
  no := fun b hb => by
    rcases hb with hb | ⟨i, d, h1, h2⟩
    · exact ⟨I.ext.no b hb, fun z => I.oh b hb (I.ext.hh.free z)⟩
    · obtain ⟨v, h3, a, xs, ds, rfl, _, h5, h6, _⟩ := I.sl i _ h1
      rw [h2] at h3
      cases h3
      exact ⟨h6, by rw [h5]; simp⟩
  len := I.len
  sl := fun i s h => by
    obtain ⟨v, h1, h2⟩ := I.sl i s h
    refine ⟨v, h1, ?_⟩
    cases s with
    | fro d => exact h2
    | own d =>
      obtain ⟨a, xs, ds, h3, h4, h5, _, _, h6⟩ := h2
      exact ⟨a, xs, ds, h3, h4, SqL.of h5, h6⟩
    | bor d =>
      obtain ⟨a, xs, ds, h3, h4, h5, h6⟩ := h2
      exact ⟨a, xs, ds, h3, h4, I.bs i a xs h5, h6⟩
theorem Ext.weak {O O' : Addr → Prop} {F H F' H' : Hp} (e : Ext O F H F' H') (h : ∀ b, O' b → O b) : Ext O' F H F' H' := ⟨e.ff, e.hh, e.fh, fun b hb => e.no b (h b hb)⟩
theorem PInv.go (I : PInv K β O0 F0 H0 F H ρ σ) (e : Ext (OwnO O0 ρ σ) F H F' H') : PInv K β O0 F0 H0 F' H' ρ σ where
  ext := I.ext.trans (e.weak fun b hb => .inl hb)
  oh := I.oh
  bs := I.bs
  len := I.len
  sl := fun i s h => by
    obtain ⟨v, h1, h2⟩ := I.sl i s h
    refine ⟨v, h1, ?_⟩
    cases s with
    | fro d => exact Rep.mono e.ff h2
    | own d =>
      obtain ⟨a, xs, ds, h3, h4, h5, _, h7, h6⟩ := h2
      subst h3
      exact ⟨a, xs, ds, rfl, h4, e.hh _ _ h5, e.no a (.inr ⟨i, d, h, h1⟩), h7, h6.mono e.ff⟩
    | bor d =>
      obtain ⟨a, xs, ds, h3, h4, h5, h6⟩ := h2
      exact ⟨a, xs, ds, h3, h4, h5, h6.mono e.ff⟩
  nd := I.nd
theorem PInv.ext' (I : PInv K β O0 F0 H0 F H ρ σ) (e : Ext (OwnO O0 ρ σ) F H F' H') : Ext O0 F0 H0 F' H' := (I.go e).ext
theorem PInv.xok {E : XE} {EK : XK} (I : PInv K β O0 F0 H0 F H ρ σ) (X : XOk K O0 F0 H0 E EK) : XOk K (OwnO O0 ρ σ) F H E EK := fun x dx F2 H2 e2 r q => X x dx F2 H2 (I.ext' e2) r q
theorem get_set {α : Type} {l : List α} {i j : Nat} {x y : α} (h : (l.set i x)[j]? = some y) : (i = j ∧ y = x ∧ i < l.length) ∨ (i ≠ j ∧ l[j]? = some y) := by
  rw [List.getElem?_set] at h
  by_cases e : i = j
  · subst e
    rw [if_pos rfl] at h
    by_cases hl : i < l.length
    · rw [if_pos hl] at h; cases h; exact .inl ⟨rfl, rfl, hl⟩
    · rw [if_neg hl] at h; cases h
  · rw [if_neg e] at h; exact .inr ⟨e, h⟩
theorem set_get {α : Type} {l : List α} {i : Nat} {x : α} (h : i < l.length) : (l.set i x)[i]? = some x := by
  rw [List.getElem?_set, if_pos rfl, if_pos h]
theorem set_ne {α : Type} {l : List α} {i j : Nat} {x : α} (h : i ≠ j) : (l.set i x)[j]? = l[j]? := by
  rw [List.getElem?_set, if_neg h]
theorem PInv.set (I : PInv K β O0 F0 H0 F H ρ σ) (i : Nat) {v : V} {d : D} (r : Rep K F v d) : PInv K β O0 F0 H0 F H (ρ.set i (some (.fro d))) (σ.set i (some v)) where
  ext := I.ext
  oh := I.oh
  bs := I.bs
  len := by simpa using I.len
  sl := fun j s h => by
    rcases get_set h with ⟨rfl, e, hl⟩ | ⟨hn, h⟩
    · cases e
      exact ⟨v, set_get (by rw [← I.len]; exact hl), r⟩
    · rw [set_ne hn]
      exact I.sl j s h
  nd := fun j k a d1 d2 h1 h2 h3 h4 => by
    rcases get_set h1 with ⟨_, e, _⟩ | ⟨n1, h1⟩
    · cases e
    · rcases get_set h2 with ⟨_, e, _⟩ | ⟨n2, h2⟩
      · cases e
      · rw [set_ne n1] at h3
        rw [set_ne n2] at h4
        exact I.nd j k a d1 d2 h1 h2 h3 h4
theorem PInv.setOwn (I : PInv K β O0 F0 H0 F H ρ σ) (i : Nat) {a : Addr} {xs : List V} {ds : List D} (h1 : H a = some (.lst xs)) (h2 : F a = none) (h3 : H0 a = none) (r : Reps K F xs ds)
    (hn : ∀ (j : Nat) d, j ≠ i → ρ[j]? = some (some (.own d)) → σ[j]? ≠ some (some (.ref a))) : PInv K β O0 F0 H0 F H (ρ.set i (some (.own (.list ds)))) (σ.set i (some (.ref a))) where
  ext := I.ext
  oh := I.oh
  bs := I.bs
  len := by simpa using I.len
  sl := fun j s h => by
    rcases get_set h with ⟨rfl, e, hl⟩ | ⟨hn, h⟩
    · cases e
      exact ⟨_, set_get (by rw [← I.len]; exact hl), a, xs, ds, rfl, rfl, h1, h2, h3, r⟩
    · rw [set_ne hn]
      exact I.sl j s h
  nd := fun j k b d1 d2 g1 g2 g3 g4 => by
    rcases get_set g1 with ⟨ej, _, _⟩ | ⟨n1, g1⟩
    · rcases get_set g2 with ⟨ek, _, _⟩ | ⟨n2, g2⟩
      · exact ej.symm.trans ek
      · exfalso
        subst ej
        rw [set_ne n2] at g4
        rcases get_set g3 with ⟨_, e, _⟩ | ⟨n, _⟩
        · cases e
          exact hn k d2 (Ne.symm n2) g2 g4
        · exact n rfl
    · rw [set_ne n1] at g3
      rcases get_set g2 with ⟨ek, _, _⟩ | ⟨n2, g2⟩
      · exfalso
        subst ek
        rcases get_set g4 with ⟨_, e, _⟩ | ⟨n, _⟩
        · cases e
          exact hn j d1 (Ne.symm n1) g1 g3
        · exact n rfl
      · rw [set_ne n2] at g4
        exact I.nd j k b d1 d2 g1 g2 g3 g4
/-- one's own list is changed -/
theorem PInv.change (I : PInv K β O0 F0 H0 F H ρ σ) {i : Nat} {a : Addr} {d : D} {ys : List V} {es : List D} (hi : ρ[i]? = some (some (.own d))) (hs : σ[i]? = some (some (.ref a))) (r : Reps K F ys es) :
    PInv K β O0 F0 H0 F (upd H a (.lst ys)) (ρ.set i (some (.own (.list es)))) σ := by
  obtain ⟨v, h1, b, xs, ds, hv, hd, h5, h6, h7, h8⟩ := I.sl i _ hi
  rw [hs] at h1
  cases h1
  cases hv
  have other : ∀ b u, b ≠ a → H b = some u → upd H a (.lst ys) b = some u := fun b u n e => by rw [upd_ne n]; exact e
  refine ⟨⟨I.ext.ff, fun b u e => ?_, fun b u e => ?_, I.ext.no⟩, I.oh, I.bs, by simpa using I.len, fun j s h => ?_, fun j k b d1 d2 g1 g2 g3 g4 => ?_⟩
  · exact other b u (fun z => by rw [z, h7] at e; cases e) (I.ext.hh b u e)
  · exact other b u (fun z => by rw [z, h6] at e; cases e) (I.ext.fh b u e)
  · rcases get_set h with ⟨rfl, e, hl⟩ | ⟨hn, h⟩
    · cases e
      exact ⟨_, hs, a, ys, es, rfl, rfl, upd_same, h6, h7, r⟩
    · obtain ⟨v, g1, g2⟩ := I.sl j s h
      refine ⟨v, g1, ?_⟩
      cases s with
      | fro d => exact g2
      | bor d => exact g2
      | own d' =>
        obtain ⟨c, xs', ds', rfl, q2, q3, q4, q5, q6⟩ := g2
        exact ⟨c, xs', ds', rfl, q2, other c _ (fun z => hn (I.nd i j a d d' hi h hs (by rw [← z]; exact g1))) q3, q4, q5, q6⟩
  · have old : ∀ (j : Nat) d', (ρ.set i (some (.own (.list es))))[j]? = some (some (.own d')) → ∃ d'', ρ[j]? = some (some (.own d'')) := fun j d' h => by
      rcases get_set h with ⟨rfl, _, _⟩ | ⟨_, h⟩
      · exact ⟨d, hi⟩
      · exact ⟨d', h⟩
    obtain ⟨e1, g1⟩ := old j d1 g1
    obtain ⟨e2, g2⟩ := old k d2 g2
    exact I.nd j k b e1 e2 g1 g2 g3 g4
/-- one's own list is kept for good from here on -/
theorem PInv.frz (I : PInv K β O0 F0 H0 F H ρ σ) (i : Nat) : ∃ F', PInv K β O0 F0 H0 F' H (ρ.modify i frzS) σ := by
  cases h : ρ[i]? with
  | none =>
    refine ⟨F, ?_⟩
    have e : ρ.modify i frzS = ρ := by
      apply List.ext_getElem?
      intro j
      rw [List.getElem?_modify]
      split
      · rename_i e; subst e; rw [h]; rfl
      · simp
    rw [e]
    exact I
  | some o =>
    have same : frzS o = o → ∃ F', PInv K β O0 F0 H0 F' H (ρ.modify i frzS) σ := fun q => by
      refine ⟨F, ?_⟩
      have e : ρ.modify i frzS = ρ := by
        apply List.ext_getElem?
        intro j
        rw [List.getElem?_modify]
        split
        · rename_i e; subst e; rw [h]; simp [q]
        · simp
      rw [e]
      exact I
    match o, h, same with
    | none, h, same => exact same rfl
    | some (.fro d), h, same => exact same rfl
    | some (.bor d), h, same => exact same rfl
    | some (.own d), h, _ =>
      obtain ⟨v, h1, a, xs, ds, rfl, rfl, h5, h6, h7, h8⟩ := I.sl i _ h
      have e : ρ.modify i frzS = ρ.set i (some (.fro (.list ds))) := by
        apply List.ext_getElem?
        intro j
        rw [List.getElem?_modify, List.getElem?_set]
        by_cases ej : i = j
        · subst ej
          rw [h]
          simp [frzS, (List.getElem?_eq_some_iff.mp h).1]
        · simp [ej]
      rw [e]
      have ff : Same F (upd F a (.lst xs)) := upd_same' h6
      refine ⟨upd F a (.lst xs), ⟨⟨I.ext.ff.trans ff, I.ext.hh, fun b u q => ?_, fun b hb => ?_⟩, I.oh, I.bs, by simpa using I.len, fun j s g => ?_, fun j k b d1 d2 g1 g2 g3 g4 => ?_⟩⟩
      · by_cases hb : b = a
        · subst hb; rw [upd_same] at q; cases q; exact h5
        · rw [upd_ne hb] at q; exact I.ext.fh b u q
      · rw [upd_ne (fun z => I.oh b hb (by rw [z]; exact h7))]
        exact I.ext.no b hb
      · rcases get_set g with ⟨rfl, e, hl⟩ | ⟨hn, g⟩
        · cases e
          exact ⟨_, h1, .lst (SqL.of upd_same) (h8.mono ff)⟩
        · obtain ⟨v, g1, g2⟩ := I.sl j s g
          refine ⟨v, g1, ?_⟩
          cases s with
          | fro d => exact Rep.mono ff g2
          | bor d =>
            obtain ⟨a', xs', ds', q1, q2, q3, q4⟩ := g2
            exact ⟨a', xs', ds', q1, q2, q3, q4.mono ff⟩
          | own d' =>
            obtain ⟨c, xs', ds', rfl, q2, q3, q4, q5, q6⟩ := g2
            have ne : c ≠ a := fun z => hn (I.nd i j a _ d' h g h1 (by rw [← z]; exact g1))
            exact ⟨c, xs', ds', rfl, q2, q3, by rw [upd_ne ne]; exact q4, q5, q6.mono ff⟩
      · rcases get_set g1 with ⟨_, e, _⟩ | ⟨n1, g1⟩
        · cases e
        · rcases get_set g2 with ⟨_, e, _⟩ | ⟨n2, g2⟩
          · cases e
          · exact I.nd j k b d1 d2 g1 g2 g3 g4
theorem PInv.frzAt : ∀ (is : List Nat) {F : Hp} {ρ : PSt}, PInv K β O0 F0 H0 F H ρ σ → ∃ F', PInv K β O0 F0 H0 F' H (frzAt is ρ) σ
  | [], F, ρ, I => ⟨F, I⟩
  | i :: is, F, ρ, I => by
    obtain ⟨F1, I1⟩ := I.frz i
    exact PInv.frzAt is I1
end
end L2.L3

set_option Elab.async false
set_option linter.all false
set_option maxRecDepth 100000
set_option maxHeartbeats 1600000
namespace L2.L3
open PySem PySem.Spec PyProof.Rows

theorem lockS2 (o : Option Sl) : lockS (lockS o) = lockS o := by
  match o with
  | none => rfl
  | some (.fro _) => rfl
  | some (.own _) => rfl
  | some (.bor _) => rfl
theorem lock_get : ∀ (L : List Nat) (ρ : PSt) (j : Nat), (lock L ρ)[j]? = if j ∈ L then ρ[j]?.map lockS else ρ[j]?
  | [], ρ, j => by simp [lock]
  | i :: L, ρ, j => by
    unfold lock
    rw [lock_get L, List.getElem?_modify]
    by_cases e : i = j
    · subst e
      cases h : ρ[i]? with
      | none => simp
      | some o =>
        simp [lockS2]
    · have e' : ¬ j = i := fun z => e z.symm
      simp [e, e']
theorem unlock_get : ∀ (L : List Nat) (ρ0 ρ : PSt) (j : Nat), (∀ i ∈ L, i < ρ.length) → (unlockF L ρ0 ρ)[j]? = if j ∈ L then some (ρ0[j]?.getD none) else ρ[j]?
  | [], ρ0, ρ, j, _ => by simp [unlockF]
  | i :: L, ρ0, ρ, j, h => by
    unfold unlockF
    rw [unlock_get L ρ0 _ j (fun k hk => by simpa using h k (List.mem_cons_of_mem _ hk)), List.getElem?_set]
    by_cases e : i = j
    · subst e
      simp [h i List.mem_cons_self]
    · have e' : ¬ j = i := fun z => e z.symm
      simp [e, e']
theorem unlock_len : ∀ (L : List Nat) (ρ0 ρ : PSt), (unlockF L ρ0 ρ).length = ρ.length
  | [], _, _ => rfl
  | i :: L, ρ0, ρ => by unfold unlockF; rw [unlock_len L]; simp
theorem lock_len : ∀ (L : List Nat) (ρ : PSt), (lock L ρ).length = ρ.length
  | [], _ => rfl
  | i :: L, ρ => by unfold lock; rw [lock_len L]; simp
theorem lockVars_own {ρ : PSt} : ∀ (p : PX), ∀ i ∈ lockVars ρ p, ∃ d, ρ[i]? = some (some (.own d)) := by
  intro p
  induction p with
  | acons a as _ ih =>
    intro i hi
    have gen : i ∈ lockVars ρ as → ∃ d, ρ[i]? = some (some (.own d)) := ih i
    cases a with
    | var j =>
      unfold lockVars at hi
      split at hi
      · rename_i h
        rcases List.mem_cons.mp hi with e | e
        · subst e
          unfold ownAt ownO at h
          split at h
          · rename_i d e; exact ⟨d, e⟩
          all_goals cases h
        · exact gen e
      · exact gen hi
    | _ => exact gen hi
  | _ => intro i hi; exact absurd hi (by simp [lockVars])
section
variable {K : PySem.W.Frag} {β : Nat → Option (Addr × List V)} {O0 : Addr → Prop} {F0 H0 F H F' H' : Hp} {ρ : PSt} {σ : St}
/-- a loop's start: what it walks is lent all the while; all but one's own lists stays -/
theorem PInv.lock (I : PInv K β O0 F0 H0 F H ρ σ) (L : List Nat) (hL : ∀ i ∈ L, ∃ d, ρ[i]? = some (some (.own d))) :
    ∃ β' O' H0', PInv K β' O' F0 H0' F H (lock L ρ) σ ∧ Same H0 H0' ∧ (∀ b, O0 b → O' b) ∧
      ∀ ρ2 σ2 F2 H2, PInv K β' O' F0 H0' F2 H2 ρ2 σ2 → (∀ i ∈ L, ρ2[i]? = ρ[i]?.map lockS) → PInv K β O0 F0 H0 F2 H2 (unlockF L ρ ρ2) σ2 := by
  classical
  -- the addresses of the own lists
  have adr : ∀ (i : Nat) (d : D), ρ[i]? = some (some (.own d)) → ∃ a xs ds, σ[i]? = some (some (.ref a)) ∧ d = .list ds ∧ H a = some (.lst xs) ∧ F a = none ∧ H0 a = none ∧ Reps K F xs ds := fun i d h => by
    obtain ⟨v, h1, a, xs, ds, rfl, h2, h3⟩ := I.sl i _ h
    exact ⟨a, xs, ds, h1, h2, h3⟩
  let own' : Addr → Prop := fun b => ∃ (i : Nat) (d : D), i ∉ L ∧ ρ[i]? = some (some (.own d)) ∧ σ[i]? = some (some (.ref b))
  let H0' : Hp := fun b => if own' b then none else H b
  let O' : Addr → Prop := fun b => O0 b ∨ ∃ i ∈ L, σ[i]? = some (some (.ref b))
  let β' : Nat → Option (Addr × List V) := fun i => if i ∈ L then (match σ[i]? with | some (some (.ref a)) => (match H a with | some (.lst xs) => some (a, xs) | _ => none) | _ => none) else β i
  have hb' : ∀ i ∈ L, ∀ a xs, σ[i]? = some (some (.ref a)) → H a = some (.lst xs) → β' i = some (a, xs) := fun i hi a xs h h2 => by
    show (if i ∈ L then (match σ[i]? with | some (some (.ref a)) => (match H a with | some (.lst xs) => some (a, xs) | _ => none) | _ => none) else β i) = some (a, xs)
    rw [if_pos hi, h]
    show (match H a with | some (.lst xs) => some (a, xs) | _ => none) = some (a, xs)
    rw [h2]
  have hbn : ∀ i, i ∉ L → β' i = β i := fun i hi => if_neg hi
  have sH : Same H0' H := fun b u e => by
    have e : (if own' b then none else H b) = some u := e
    split at e
    · cases e
    · exact e
  have s0 : Same H0 H0' := fun b u e => by
    have : ¬ own' b := fun ⟨i, d, _, h1, h2⟩ => by
      obtain ⟨a, xs, ds, h3, _, _, _, h4, _⟩ := adr i d h1
      rw [h2] at h3
      cases h3
      rw [h4] at e; cases e
    show (if own' b then none else H b) = some u
    rw [if_neg this]
    exact I.ext.hh b u e
  have lockedH : ∀ i ∈ L, ∀ a xs, σ[i]? = some (some (.ref a)) → H a = some (.lst xs) → H0' a = some (.lst xs) := fun i hi a xs h1 h2 => by
    have : ¬ own' a := fun ⟨j, d, hj, g1, g2⟩ => by
      obtain ⟨d', hd'⟩ := hL i hi
      exact hj (I.nd i j a d' d hd' g1 h1 g2 ▸ hi)
    show (if own' a then none else H a) = some (.lst xs)
    rw [if_neg this]
    exact h2
  refine ⟨β', O', H0', ⟨⟨I.ext.ff, sH, I.ext.fh, fun b hb => ?_⟩, fun b hb => ?_, fun i a xs h => ?_, by rw [lock_len]; exact I.len, fun i s h => ?_, fun i j a d d' h1 h2 h3 h4 => ?_⟩, s0, fun b hb => .inl hb, ?_⟩
  · rcases hb with hb | ⟨i, hi, h⟩
    · exact I.ext.no b hb
    · obtain ⟨d, hd⟩ := hL i hi
      obtain ⟨a, xs, ds, h3, _, _, h5, _⟩ := adr i d hd
      rw [h] at h3; cases h3
      exact h5
  · rcases hb with hb | ⟨i, hi, h⟩
    · intro z
      exact I.oh b hb (s0.free z)
    · obtain ⟨d, hd⟩ := hL i hi
      obtain ⟨a, xs, ds, h3, _, h4, h5, _⟩ := adr i d hd
      rw [h] at h3; cases h3
      rw [lockedH i hi b xs h h4]
      simp
  · by_cases hi : i ∈ L
    · obtain ⟨d, hd⟩ := hL i hi
      obtain ⟨a', xs', ds, h3, _, h4, _⟩ := adr i d hd
      rw [hb' i hi a' xs' h3 h4] at h
      cases h
      exact SqL.of (lockedH i hi _ _ h3 h4)
    · rw [hbn i hi] at h
      exact s0.seq (I.bs i a xs h)
  · rw [lock_get] at h
    by_cases hi : i ∈ L
    · rw [if_pos hi] at h
      obtain ⟨d, hd⟩ := hL i hi
      rw [hd] at h
      cases h
      obtain ⟨a, xs, ds, h3, h4, h5, h6, h7, h8⟩ := adr i d hd
      exact ⟨_, h3, a, xs, ds, rfl, h4, hb' i hi a xs h3 h5, h8⟩
    · rw [if_neg hi] at h
      obtain ⟨v, h1, h2⟩ := I.sl i s h
      refine ⟨v, h1, ?_⟩
      cases s with
      | fro d => exact h2
      | bor d =>
        obtain ⟨a, xs, ds, h3, h4, h5, h6⟩ := h2
        exact ⟨a, xs, ds, h3, h4, by rw [hbn i hi]; exact h5, h6⟩
      | own d =>
        obtain ⟨a, xs, ds, rfl, h4, h5, h6, h7, h8⟩ := h2
        exact ⟨a, xs, ds, rfl, h4, h5, h6, if_pos ⟨i, d, hi, h, h1⟩, h8⟩
  · have old : ∀ (i : Nat) d, (L3.lock L ρ)[i]? = some (some (.own d)) → ρ[i]? = some (some (.own d)) := fun i d h => by
      rw [lock_get] at h
      by_cases hi : i ∈ L
      · rw [if_pos hi] at h
        obtain ⟨d, hd⟩ := hL i hi
        rw [hd] at h; cases h
      · rw [if_neg hi] at h; exact h
    exact I.nd i j a d d' (old i d h1) (old j d' h2) h3 h4
  · intro ρ2 σ2 F2 H2 J hJ
    have hlt : ∀ i ∈ L, i < ρ2.length := fun i hi => by
      obtain ⟨d, hd⟩ := hL i hi
      have := hJ i hi
      rw [hd] at this
      exact (List.getElem?_eq_some_iff.mp this).1
    -- a locked one lies where it lay
    have lay : ∀ i ∈ L, ∃ a xs ds, ρ[i]? = some (some (.own (.list ds))) ∧ σ2[i]? = some (some (.ref a)) ∧ H2 a = some (.lst xs) ∧ F2 a = none ∧ H0 a = none ∧ Reps K F2 xs ds ∧ H0' a ≠ none ∧ σ[i]? = some (some (.ref a)) := fun i hi => by
      obtain ⟨d, hd⟩ := hL i hi
      obtain ⟨a, xs, ds, h3, h4, h5, h6, h7, h8⟩ := adr i d hd
      have e := hJ i hi
      rw [hd] at e
      obtain ⟨v, g1, a', xs', ds', g2, g3, g4, g5⟩ := J.sl i _ e
      rw [hb' i hi a xs h3 h5] at g4
      cases g4
      subst g2
      have hH := lockedH i hi a xs h3 h5
      subst h4
      cases g3
      exact ⟨a, xs, ds, hd, g1, J.ext.hh _ _ hH, J.ext.no a (.inr ⟨i, hi, h3⟩), h7, g5, by rw [hH]; simp, h3⟩
    refine ⟨⟨J.ext.ff, s0.trans J.ext.hh, J.ext.fh, fun b hb => J.ext.no b (.inl hb)⟩, I.oh, I.bs, by rw [unlock_len]; exact J.len, fun i s h => ?_, fun i j a d d' h1 h2 h3 h4 => ?_⟩
    · rw [unlock_get L ρ ρ2 i hlt] at h
      by_cases hi : i ∈ L
      · rw [if_pos hi] at h
        obtain ⟨a, xs, ds, g1, g2, g3, g4, g5, g6, g7, g8⟩ := lay i hi
        rw [g1] at h
        cases h
        exact ⟨_, g2, a, xs, ds, rfl, rfl, g3, g4, g5, g6⟩
      · rw [if_neg hi] at h
        obtain ⟨v, g1, g2⟩ := J.sl i s h
        refine ⟨v, g1, ?_⟩
        cases s with
        | fro d => exact g2
        | bor d =>
          obtain ⟨a, xs, ds, q1, q2, q3, q4⟩ := g2
          exact ⟨a, xs, ds, q1, q2, by rw [← hbn i hi]; exact q3, q4⟩
        | own d =>
          obtain ⟨a, xs, ds, rfl, g3, g4, g5, g6, g7⟩ := g2
          exact ⟨a, xs, ds, rfl, g3, g4, g5, s0.free g6, g7⟩
    · rw [unlock_get L ρ ρ2 i hlt] at h1
      rw [unlock_get L ρ ρ2 j hlt] at h2
      by_cases hi : i ∈ L
      · obtain ⟨ai, xi, di, p1, p2, p3, p4, p5, p6, p7, p8⟩ := lay i hi
        rw [p2] at h3; cases h3
        by_cases hj : j ∈ L
        · obtain ⟨aj, xj, dj, q1, q2, q3, q4, q5, q6, q7, q8⟩ := lay j hj
          rw [q2] at h4; cases h4
          exact I.nd i j _ _ _ p1 q1 p8 q8
        · rw [if_neg hj] at h2
          obtain ⟨v, g1, a, xs, ds, rfl, g3, g4, g5, g6, g7⟩ := J.sl j _ h2
          rw [h4] at g1; cases g1
          exact absurd g6 p7
      · rw [if_neg hi] at h1
        by_cases hj : j ∈ L
        · obtain ⟨aj, xj, dj, q1, q2, q3, q4, q5, q6, q7, q8⟩ := lay j hj
          rw [q2] at h4; cases h4
          obtain ⟨v, g1, a, xs, ds, rfl, g3, g4, g5, g6, g7⟩ := J.sl i _ h1
          rw [h3] at g1; cases g1
          exact absurd g6 q7
        · rw [if_neg hj] at h2
          exact J.nd i j a d d' h1 h2 h3 h4
end
end L2.L3

set_option Elab.async false
set_option linter.all false
set_option maxRecDepth 100000
set_option maxHeartbeats 1600000
namespace L2.L3
open PySem PySem.Spec PyProof.Rows

structure EndsOk (K : PySem.W.Frag) (β : Nat → Option (Addr × List V)) (O0 : Addr → Prop) (F0 H0 : Hp) (Z : PEnds) (Dn : Ends) : Prop where
  nx : ∀ ρ σ F H, PInv K β O0 F0 H0 F H ρ σ → Z.nx ρ → Dn.nx σ H
  rt : ∀ v F H k d, Ext O0 F0 H0 F H → VRel K H0 O0 F H k v d → k.esc = true → Z.rt d k → Dn.rt v H
  bk : ∀ ρ σ F H, PInv K β O0 F0 H0 F H ρ σ → Z.bk ρ → Dn.bk σ H
  ct : ∀ ρ σ F H, PInv K β O0 F0 H0 F H ρ σ → Z.ct ρ → Dn.ct σ H
section
variable {K : PySem.W.Frag} {β : Nat → Option (Addr × List V)} {O0 : Addr → Prop} {F0 H0 F H F' H' : Hp} {ρ : PSt} {σ : St}
theorem PInv.rebase (I : PInv K β O0 F0 H0 F H ρ σ) : PInv K β O0 F H0 F H ρ σ := ⟨⟨.refl _, I.ext.hh, I.ext.fh, I.ext.no⟩, I.oh, I.bs, I.len, I.sl, I.nd⟩
theorem PInv.unbase {F1 : Hp} (e : Same F0 F1) (I : PInv K β O0 F1 H0 F H ρ σ) : PInv K β O0 F0 H0 F H ρ σ := ⟨⟨e.trans I.ext.ff, I.ext.hh, I.ext.fh, I.ext.no⟩, I.oh, I.bs, I.len, I.sl, I.nd⟩
theorem PInv.setAll : ∀ (is : List Nat) {vs : List V} {ds : List D} {ρ ρ' : PSt} {σ : St}, PInv K β O0 F0 H0 F H ρ σ → Reps K F vs ds → setAllD is ds ρ = some ρ' → ∃ σ', L3.setAll is vs σ = some σ' ∧ PInv K β O0 F0 H0 F H ρ' σ'
  | [], _, _, ρ, ρ', σ, I, .nil, h => by
    simp only [setAllD, Option.some.injEq] at h
    subst h
    exact ⟨σ, rfl, I⟩
  | [], _, _, _, _, _, _, .cons _ _, h => by simp [setAllD] at h
  | _ :: _, _, _, _, _, _, _, .nil, h => by simp [setAllD] at h
  | i :: is, _, _, ρ, ρ', σ, I, .cons r t, h => by
    simp only [setAllD] at h
    obtain ⟨σ', h1, h2⟩ := PInv.setAll is (I.set i r) t h
    exact ⟨σ', h1, h2⟩
theorem PInv.bind {tg : Tg} {v : V} {d : D} {QP : PSt → Prop} {RP : St → Hp → Prop} (I : PInv K β O0 F0 H0 F H ρ σ) (r : Rep K F v d) (h : bindD tg d ρ QP)
    (k : ∀ ρ2 σ2, PInv K β O0 F0 H0 F H ρ2 σ2 → QP ρ2 → RP σ2 H) : bindT K tg v σ H RP := by
  cases tg with
  | nm i => exact k _ _ (I.set i r) h
  | tp is =>
    cases r with
    | tup hp rp =>
      obtain ⟨ρ', e, q⟩ := h
      obtain ⟨σ', h1, h2⟩ := PInv.setAll is I rp e
      exact ⟨_, σ', I.ext.fh.tupl hp, h1, k ρ' σ' h2 q⟩
    | _ => exact h.elim
theorem PInv.bindI {tg : Tg} {it : Item} {d : D} {QP : PSt → Prop} {RP : St → Hp → Prop} (I : PInv K β O0 F0 H0 F H ρ σ) (r : ItR K F it d) (h : bindD tg d ρ QP)
    (k : ∀ ρ2 σ2 F2 H2, PInv K β O0 F0 H0 F2 H2 ρ2 σ2 → QP ρ2 → RP σ2 H2) : L3.bindI K tg it σ H RP := by
  cases it with
  | one v => exact I.bind r h fun ρ2 σ2 J q => k ρ2 σ2 F H J q
  | tup vs =>
    obtain ⟨ds, rfl, rp⟩ := r
    cases tg with
    | nm i =>
      intro p hp
      obtain ⟨e, n⟩ := Ext.laidT I.eok.fh I.eok.no hp vs rp
      exact k _ _ _ _ ((I.go e).set i n) h
    | tp is =>
      intro H' s
      obtain ⟨ρ', e, q⟩ := h
      have ex : Ext (OwnO O0 ρ σ) F H F H' := ⟨.refl _, s, I.ext.fh.trans s, fun b hb => (I.eok.no b hb).1⟩
      obtain ⟨σ', h1, h2⟩ := PInv.setAll is (I.go ex) rp e
      exact ⟨σ', h1, k ρ' σ' F H' h2 q⟩
/-- a for loop -/
theorem for_okD {tg : Tg} {body : PEnds → PSt → Prop} {tb : TS} {Z : PEnds} {Dn : Ends} {xs : List Item} {ys : List D} {st : Hp → Prop}
    (ib : ∀ {F H : Hp} {ρ : PSt} {σ : St} {Z : PEnds} {Dn : Ends}, PInv K β O0 F0 H0 F H ρ σ → body Z ρ → EndsOk K β O0 F0 H0 Z Dn → tb Dn σ H)
    (I : PInv K β O0 F0 H0 F H ρ σ) (pr : Paired (ItR K F0) xs ys) (hst : ∀ H', Same H0 H' → Same F0 H' → st H') (h : forD body tg Z ys ρ)
    (onx : ∀ ρ σ F H, PInv K β O0 F0 H0 F H ρ σ → Z.nx ρ → Dn.nx σ H) (ort : ∀ v F H k d, Ext O0 F0 H0 F H → VRel K H0 O0 F H k v d → k.esc = true → Z.rt d k → Dn.rt v H) : ForB K xs st tg tb Dn σ H := by
  intro J hJ
  have len := Paired.length pr
  refine ⟨fun i m σ H => i ≤ xs.length ∧ m = xs.length - i ∧ ∃ ρ F, PInv K β O0 F0 H0 F H ρ σ ∧ forD body tg Z (ys.drop i) ρ, ⟨_, Nat.zero_le _, rfl, ρ, F, I, by simpa using h⟩, ?_⟩
  rintro i m σ1 H1 ⟨hi, rfl, ρ1, F1, I1, h1⟩
  have hs := hst H1 I1.ext.hh (I1.ext.ff.trans I1.ext.fh)
  rcases Nat.lt_or_ge i xs.length with hlt | hge
  · refine .inr ⟨hJ.go i H1 hs hlt, fun σ' H' => i + 1 ≤ xs.length ∧ ∃ ρ F, PInv K β O0 F0 H0 F H' ρ σ' ∧ forD body tg Z (ys.drop (i + 1)) ρ, fun σ' H' ⟨a, b⟩ => ⟨_, by omega, a, rfl, b⟩, fun x H2 hy => ?_⟩
    obtain ⟨it, hx, hm⟩ := hJ.yld i H1 x H2 hs hlt hy
    obtain ⟨y, hd, ry⟩ := Paired.get_of pr hx
    rw [hd] at h1
    unfold forD at h1
    have key : L3.bindI K tg it σ1 H1 fun σ2 H2 => tb { Dn with nx := fun σ' H' => i + 1 ≤ xs.length ∧ ∃ ρ F, PInv K β O0 F0 H0 F H' ρ σ' ∧ forD body tg Z (ys.drop (i + 1)) ρ, ct := fun σ' H' => i + 1 ≤ xs.length ∧ ∃ ρ F, PInv K β O0 F0 H0 F H' ρ σ' ∧ forD body tg Z (ys.drop (i + 1)) ρ, bk := Dn.nx } σ2 H2 := by
      refine I1.bindI (ry.mono I1.ext.ff) h1 fun ρ2 σ2 F2 H3 I2 h2 => ?_
      exact ib I2 h2 ⟨fun ρ3 σ3 F3 H3 I3 h3 => ⟨hlt, ρ3, F3, I3, h3⟩, ort, fun ρ3 σ3 F3 H3 I3 h3 => onx ρ3 σ3 F3 H3 I3 h3, fun ρ3 σ3 F3 H3 I3 h3 => ⟨hlt, ρ3, F3, I3, h3⟩⟩
    exact bindI_step hm key
  · have e : ys.drop i = [] := List.drop_eq_nil_of_le (by omega)
    rw [e] at h1
    exact .inl ⟨hJ.stop i H1 hs hge, onx ρ1 σ1 F1 H1 I1 h1⟩
theorem Ext.weak2 {O O' : Addr → Prop} {F0 H0 F1 H1 F H : Hp} (e : Ext O F1 H1 F H) (h : ∀ b, O' b → O b) (f : Same F0 F1) (g : Same H0 H1) : Ext O' F0 H0 F H := ⟨f.trans e.ff, g.trans e.hh, e.fh, fun b hb => e.no b (h b hb)⟩
variable {Γ : Ev} {Ψ : PEv} {E : XE} {EK : XK}
/-- an expression within a statement -/
theorem st_e {a : PX} (ia : PSnd K Γ Ψ a) (I : PInv K β O0 F0 H0 F H ρ σ) (X : XOk K O0 F0 H0 E EK) {P : D → Kd → Prop} {RR : V → Hp → Prop} (h : (pe Ψ a E).e ρ P)
    (kk : ∀ v F' H' x k, PInv K β O0 F0 H0 F' H' ρ σ → VRel K H0 (OwnO O0 ρ σ) F' H' k v x → P x k → RR v H') : (wp K Γ a EK).e σ H RR :=
  ia.e I.eok (I.xok X) h fun v F' H' k d e r q => kk v F' H' d k (I.go e) r q
theorem st_k {a : PX} (ia : PSnd K Γ Ψ a) (I : PInv K β O0 F0 H0 F H ρ σ) (X : XOk K O0 F0 H0 E EK) {P : D → Kd → Prop} {RR : V → Hp → Prop} (h : (pe Ψ a E).e ρ P)
    (kk : ∀ v F' H' x k, PInv K β O0 F0 H0 F' H' ρ σ → SRep K F' H' v x → (k.esc = true → Rep K F' v x) → P x k → RR v H') : (wp K Γ a EK).e σ H RR :=
  one_k ia I.eok (I.xok X) h fun v F' H' x k e _ _ s r q => kk v F' H' x k (I.go e) s r.1 q
theorem st_t {a : PX} (ia : PSnd K Γ Ψ a) (I : PInv K β O0 F0 H0 F H ρ σ) (X : XOk K O0 F0 H0 E EK) {P : Bool → Prop} {RR : Bool → Hp → Prop} (h : (pe Ψ a E).t ρ P)
    (kk : ∀ b F' H', PInv K β O0 F0 H0 F' H' ρ σ → P b → RR b H') : (wp K Γ a EK).t σ H RR :=
  ia.t I.eok (I.xok X) h fun b F' H' e q => kk b F' H' (I.go e) q
/-- one's own list, seen -/
theorem PInv.ownAt (I : PInv K β O0 F0 H0 F H ρ σ) {i : Nat} {d : D} (h : ρ[i]? = some (some (.own d))) : ∃ a xs ds, σ[i]? = some (some (.ref a)) ∧ d = .list ds ∧ H a = some (.lst xs) ∧ Reps K F xs ds ∧ F a = none ∧ H0 a = none := by
  obtain ⟨v, h1, a, xs, ds, rfl, h2, h3, h4, h5, h6⟩ := I.sl i _ h
  exact ⟨a, xs, ds, h1, h2, h3, h6, h4, h5⟩
theorem ret_new (I : PInv K β O0 F0 H0 F H ρ σ) {i : Nat} {d : D} (h : ρ[i]? = some (some (.own d))) : ∃ v, σ[i]? = some (some v) ∧ VRel K H0 O0 F H .new v d := by
  obtain ⟨a, xs, ds, h1, h2, h3, h4, h5, h6⟩ := I.ownAt h
  exact ⟨_, h1, a, xs, ds, rfl, h2, h3, h5, ⟨h6, fun z => I.oh a z h6⟩, h4⟩
theorem ixN_lt {n : Nat} {i : Int} {p : Nat} (h : ixN n i = some p) : p < n := (ixN_seq h).2.1
theorem ownL_ok {i : Nat} {N : List D → Prop} (h : ownL ρ i N) : ∃ ds, ρ[i]? = some (some (.own (.list ds))) ∧ N ds := by
  unfold ownL ownV at h
  split at h
  · rename_i ds e; exact ⟨ds, e, h⟩
  · exact h.elim
/-- a list is changed by a method -/
theorem mut_ok {m : Mt} {a : Addr} {xs vs : List V} {ds es : List D} {N : D → List D → Prop} {R : VK} (ha : H a = some (.lst xs)) (r : Reps K F xs ds) (rv : Reps K F vs es) (h : mutL m ds es N)
    (k : ∀ v d ys ds', Rep K F v d → Reps K F ys ds' → N d ds' → R v (upd H a (.lst ys))) : mtR K m (.ref a) vs H R := by
  unfold mutL at h
  split at h
  · cases rv with
    | cons r1 t =>
      cases t
      exact ⟨xs, ha, by rw [r.length]; exact h.1, k _ _ _ _ .non (r.append (.cons r1 .nil)) h.2⟩
  · exact h.elim
theorem mut_ty {m : Mt} {a : Addr} {xs : List V} (h : isMut m = true) (ha : H a = some (.lst xs)) : tyV K m.ty (.ref a) H := by
  cases m with
  | append => exact .inl ⟨rfl, xs, SqL.of ha⟩
  | _ => cases h
theorem mutS_ok (g : GOk K Γ Ψ) {m : Mt} {i : Nat} {as : PX} {N : D → PSt → Prop} {R : VK} (hm : isMut m = true) (I : PInv K β O0 F0 H0 F H ρ σ) (X : XOk K O0 F0 H0 E EK) (h : mutS Ψ E m i as ρ N)
    (k : ∀ v d ρ' F' H', PInv K β O0 F0 H0 F' H' ρ' σ → Rep K F' v d → N d ρ' → R v H') : (wp K Γ (.mt m (.var i) as) EK).e σ H R := by
  obtain ⟨ds, hi, h⟩ := ownL_ok h
  obtain ⟨a, xs, ds', h1, e, h3, h4, _⟩ := I.ownAt hi
  cases e
  show (match σ[i]? with | some (some v) => tyV K m.ty v H ∧ (wp K Γ as EK).a σ H fun vs H2 => mtR K m v vs H2 R | _ => False)
  rw [h1]
  refine ⟨mut_ty hm h3, ?_⟩
  refine (psnd g as).a I.eok (I.xok X) h fun vs es F' H' e r q => ?_
  have J := I.go e
  have h3' := e.hh _ _ h3
  exact mut_ok h3' (h4.mono e.ff) (r.reps q.1) q.2 fun v d ys ds2 rv rr n => k v d _ F' _ (J.change hi h1 rr) rv n
theorem mutOf_some {e : PX} {m : Mt} {i : Nat} {as : PX} (h : mutOf e = some (m, i, as)) : e = .mt m (.var i) as ∧ isMut m = true := by
  unfold mutOf at h
  split at h
  · split at h
    · cases h; exact ⟨rfl, by assumption⟩
    · cases h
  · cases h
theorem psnds (g : GOk K Γ Ψ) : ∀ (p : PT) {β : Nat → Option (Addr × List V)} {O0 : Addr → Prop} {F0 H0 F H : Hp} {ρ : PSt} {σ : St} {Z : PEnds} {Dn : Ends}, PInv K β O0 F0 H0 F H ρ σ → XOk K O0 F0 H0 E EK → pws Ψ E p Z ρ → EndsOk K β O0 F0 H0 Z Dn → wps K Γ EK p Dn σ H
  | .nil, _, _, _, _, _, _, _, _, _, _, I, X, h, ok => ok.nx _ _ _ _ I h
  | .seq s r, _, _, _, _, _, _, _, _, _, _, I, X, h, ok => psnds g s I X h ⟨fun ρ σ F H J q => psnds g r J X q ok, ok.rt, ok.bk, ok.ct⟩
  | .set i e, _, _, _, _, _, _, ρ, σ, Z, Dn, I, X, h, ok => by
    have h2 : mutE (mutOf e) (fun m j as => mutS Ψ E m j as ρ fun d ρ' => Z.nx (ρ'.set i (some (.fro d)))) ((pe Ψ e E).e ρ fun d k => k.esc = true ∧ Z.nx (ρ.set i (some (.fro d)))) := h
    unfold mutE at h2
    split at h2
    · rename_i m j as hm
      obtain ⟨rfl, hm'⟩ := mutOf_some hm
      exact mutS_ok g hm' I X h2 fun v d ρ' F' H' J r q => ok.nx _ _ _ _ (J.set i r) q
    · exact st_k (psnd g e) I X h2 fun v F' H' x k J s r q => ok.nx _ _ _ _ (J.set i (r q.1)) q.2
  | .setC i e, _, _, _, _, _, _, _, _, _, _, I, X, h, ok => st_k (psnd g e) I X h fun v F' H' x k J s r q => ok.nx _ _ _ _ (J.set i (r q.1)) q.2
  | .tset is e, _, _, _, _, _, _, _, _, Z, Dn, I, X, h, ok => st_k (psnd g e) I X h fun v F' H' x k J s r q => by
    have rr : Rep K F' v x := by
      rcases s with s | ⟨_, _, ds, _, rfl, _⟩
      · exact s
      · exact q.elim
    exact J.bind rr q fun ρ2 σ2 J2 q2 => ok.nx _ _ _ _ J2 q2
  | .six o i e, _, _, _, _, _, _, ρ, σ, Z, Dn, I, X, h, ok => by
    cases o with
    | var j =>
      obtain ⟨ds, hj, h⟩ := ownL_ok (show ownL ρ j fun ds => (pe Ψ e E).e ρ fun d k => k.esc = true ∧ (pe Ψ i E).e ρ fun x _ => sixD ds x d fun es => Z.nx (ρ.set j (some (.own (.list es)))) from h)
      refine st_k (P := fun d k => k.esc = true ∧ (pe Ψ i E).e ρ fun x _ => sixD ds x d fun es => Z.nx (ρ.set j (some (.own (.list es)))))
        (RR := fun v H1 => (wp K Γ (.var j) EK).e σ H1 fun ov H2 => (wp K Γ i EK).e σ H2 fun iv H3 => setR ov iv v H3 fun H4 => Dn.nx σ H4) (psnd g e) I X h fun v F1 H1 d k J1 s1 r1 ⟨hk, q⟩ => ?_
      have rv := r1 hk
      obtain ⟨a, xs, ds', h1, e', h3, h4, _⟩ := J1.ownAt hj
      cases e'
      show (match σ[j]? with | some (some ov) => (wp K Γ i EK).e σ H1 fun iv H3 => setR ov iv v H3 fun H4 => Dn.nx σ H4 | _ => False)
      rw [h1]
      refine one_ok (P := fun x => sixD ds x d fun es => Z.nx (ρ.set j (some (.own (.list es))))) (RR := fun iv H3 => setR (.ref a) iv v H3 fun H4 => Dn.nx σ H4) (psnd g i) J1.eok (J1.xok X) q fun iv F2 H2 x e2 _ _ s2 q2 => ?_
      have J2 := J1.go e2
      unfold sixD at q2
      split at q2
      · obtain rfl := s2.int
        obtain ⟨p, hp, q2⟩ := q2
        have r' := h4.mono e2.ff
        exact ⟨xs, p, e2.hh _ _ h3, by rw [r'.length]; exact hp, ok.nx _ _ _ _ (J2.change hj h1 (Reps.set (rv.mono e2.ff) p r')) q2⟩
      · exact q2.elim
    | _ => exact h.elim
  | .expr e, _, _, _, _, _, _, ρ, σ, Z, Dn, I, X, h, ok => by
    have h2 : mutE (mutOf e) (fun m i as => mutS Ψ E m i as ρ fun _ ρ' => Z.nx ρ') ((pe Ψ e E).e ρ fun _ _ => Z.nx ρ) := h
    unfold mutE at h2
    split at h2
    · rename_i m j as hm
      obtain ⟨rfl, hm'⟩ := mutOf_some hm
      exact mutS_ok g hm' I X h2 fun v d ρ' F' H' J r q => ok.nx _ _ _ _ J q
    · exact st_e (psnd g e) I X h2 fun v F' H' x k J r q => ok.nx _ _ _ _ J q
  | .ret e, _, _, _, _, _, _, ρ, σ, Z, Dn, I, X, h, ok => by
    have gen : ∀ e, (pe Ψ e E).e ρ (fun d k => k.esc = true ∧ Z.rt d k) → wps K Γ EK (.ret e) Dn σ _ := fun e h =>
      st_e (psnd g e) I X h fun v F' H' x k J r q => ok.rt _ _ _ k _ J.ext (r.base (.refl _) (fun b hb => .inl hb) q.1) q.1 q.2
    cases e with
    | var i =>
      have h' : rdR ρ[i]? Z.rt := h
      show (match σ[i]? with | some (some v) => Dn.rt v _ | _ => False)
      match hd : ρ[i]?, h' with
      | some (some (.own d)), h' =>
        obtain ⟨v, h1, r⟩ := ret_new I hd
        rw [h1]
        exact ok.rt _ _ _ .new _ I.ext r rfl h'
      | some (some (.fro d)), h' =>
        obtain ⟨v, h1, r⟩ := I.sl i _ hd
        rw [h1]
        exact ok.rt _ _ _ .fro _ I.ext r rfl h'
      | some (some (.bor d)), h' => exact h'.elim
      | some none, h' => exact h'.elim
      | none, h' => exact h'.elim
    | _ => exact gen _ h
  | .retN, _, _, _, _, _, _, _, _, _, _, I, X, h, ok => ok.rt _ _ _ .fro _ I.ext .non rfl h
  | .pass, _, _, _, _, _, _, _, _, _, _, I, X, h, ok => ok.nx _ _ _ _ I h
  | .brk, _, _, _, _, _, _, _, _, _, _, I, X, h, ok => ok.bk _ _ _ _ I h
  | .cnt, _, _, _, _, _, _, _, _, _, _, I, X, h, ok => ok.ct _ _ _ _ I h
  | .ife c a b, _, _, _, _, _, _, _, _, _, _, I, X, h, ok => st_t (psnd g c) I X h fun k F' H' J q => by
    cases k with
    | true => exact psnds g a J X q ok
    | false => exact psnds g b J X q ok
  | .for_ tg ik its body, β, O0, F0, H0, F, H, ρ, σ, Z, Dn, I, X, h, ok => by
    obtain ⟨β', O', H0', J, s0, so, back⟩ := I.lock (lockVars ρ its) (lockVars_own its)
    have X' : XOk K O' F0 H0' E EK := fun x dx F2 H2 e2 r q => X x dx F2 H2 (e2.weak2 so (.refl _) s0) r q
    refine args_k (P := fun ds => noOwn ds = true ∧ itemsD ik (dsOf ds) fun xs => forD (pws Ψ E body) tg { Z with nx := unlock (lockVars ρ its) ρ Z.nx } xs (lock (lockVars ρ its) ρ))
      (RR := fun vs H1 => itemsR K ik vs H1 fun xs st H2 => ForB K xs st tg (wps K Γ EK body) Dn σ H2) (psnd g its) J.eok (J.xok X') h fun vs F1 H1 ds e1 _ _ r1 q => ?_
    have J1 := (J.go e1).rebase
    have f01 : Same F0 F1 := (J.go e1).ext.ff
    have st1 := r1.stay q.1
    refine items_okB (B := H0') J1.ext.hh J1.ext.fh st1 q.2 fun xs ys st pr hst hc => ?_
    refine for_okD (fun I h ok => psnds g body I ?_ h ok) J1 pr hst hc ?_ ?_
    · exact fun x dx F2 H2 e2 r q => X x dx F2 H2 (e2.weak2 so f01 s0) r q
    · exact fun ρ2 σ2 F2 H2 J2 ⟨q1, q2⟩ => ok.nx _ _ _ _ (back ρ2 σ2 F2 H2 (J2.unbase f01) q1) q2
    · exact fun v F2 H2 k d e2 r hk q => ok.rt v F2 H2 k d (e2.weak2 so f01 s0) (r.base s0 so hk) hk q
  | .whl c body, β, O0, F0, H0, F, H, ρ, σ, Z, Dn, I, X, h, ok => by
    obtain ⟨W, ⟨m0, w0⟩, turn⟩ := h
    refine ⟨fun m σ H => ∃ ρ F, PInv K β O0 F0 H0 F H ρ σ ∧ W m ρ, ⟨m0, ρ, F, I, w0⟩, ?_⟩
    rintro m σ1 H1 ⟨ρ1, F1, I1, w1⟩
    refine st_t (psnd g c) I1 X (turn m ρ1 w1) fun k F' H' J q => ?_
    cases k with
    | false => exact ok.nx _ _ _ _ J q
    | true =>
      refine ⟨fun σ' H' => ∃ m', m' < m ∧ ∃ ρ F, PInv K β O0 F0 H0 F H' ρ σ' ∧ W m' ρ, fun _ _ z => z, ?_⟩
      exact psnds g body J X q ⟨fun ρ3 σ3 F3 H3 I3 ⟨m', hm, w⟩ => ⟨m', hm, ρ3, F3, I3, w⟩, ok.rt, fun ρ3 σ3 F3 H3 I3 h3 => ok.nx ρ3 σ3 F3 H3 I3 h3, fun ρ3 σ3 F3 H3 I3 ⟨m', hm, w⟩ => ⟨m', hm, ρ3, F3, I3, w⟩⟩
  | .own s, _, _, _, _, _, _, ρ, σ, Z, Dn, I, X, h, ok => by
    have key : ∀ i e, (pe Ψ e E).e ρ (fun d k => k = .new ∧ Z.nx (ρ.set i (some (.own d)))) → (wp K Γ e EK).e σ _ fun x H1 => Dn.nx (σ.set i (some x)) H1 := fun i e h =>
      st_e (psnd g e) I X h fun v F' H' x k J r ⟨hk, q⟩ => by
        subst hk
        obtain ⟨a, xs, ds, rfl, rfl, h1, h2, ⟨h3, h4⟩, h5⟩ := r
        exact ok.nx _ _ _ _ (J.setOwn i h1 h2 h3 h5 fun j d hj g1 g2 => h4 (.inr ⟨j, d, g1, g2⟩)) q
    cases s with
    | set i e => exact key i e h
    | setC i e => exact key i e h
    | _ => exact h.elim
  | .frz is s, _, _, _, _, _, _, _, _, _, _, I, X, h, ok => by
    obtain ⟨F', I'⟩ := I.frzAt is
    exact psnds g s I' X h ok
end
end L2.L3

set_option Elab.async false
set_option linter.all false
set_option maxRecDepth 100000
set_option maxHeartbeats 800000
namespace L2.L3
open PySem PySem.Spec PyProof.Rows

/-! ### what a text needs of the module, as a look -/
def tyB (x : Str) (n : String) : Bool := (x == ("bool" : Str) && n == "bool") || (x == ("int" : Str) && n == "int") || (x == ("str" : Str) && n == "str") || (x == ("list" : Str) && n == "list") || (x == ("tuple" : Str) && n == "tuple") || (x == ("ValueError" : Str) && n == "ValueError")
theorem tyB_ok {x : Str} {n : String} (h : tyB x n = true) : bootBuiltins x = some (.type n) := by
  simp only [tyB, Bool.or_eq_true, Bool.and_eq_true, beq_iff_eq] at h
  rcases h with ((((⟨rfl, rfl⟩ | ⟨rfl, rfl⟩) | ⟨rfl, rfl⟩) | ⟨rfl, rfl⟩) | ⟨rfl, rfl⟩) | ⟨rfl, rfl⟩ <;> kernel_rfl
structure Need where
  fn : List Str
  va : List Str
  no : List Str
def ikB (n : Need) : ItK → Bool
  | .val => true
  | .rng1 | .rng2 => n.no.contains ("range" : Str)
def needB (n : Need) : PX → Bool
  | .glo x => n.va.contains x
  | .bty x t => n.no.contains x && tyB x t
  | .bin _ a b | .cmp _ a b | .and a b | .or a b | .idx a b | .acons a b => needB n a && needB n b
  | .neg a | .not a | .lst a | .tup a => needB n a
  | .chn _ _ a b c | .ife a b c | .slc a b c => needB n a && (needB n b && needB n c)
  | .call f as => n.fn.contains f && needB n as
  | .bi f as => n.no.contains f.nm && needB n as
  | .isi a c => n.no.contains ("isinstance" : Str) && (needB n a && needB n c)
  | .mt _ o as => needB n o && needB n as
  | .comp _ _ _ ik its cond elt => ikB n ik && (needB n its && (needB n cond && needB n elt))
  | _ => true
def needSB (n : Need) : PT → Bool
  | .seq s r => needSB n s && needSB n r
  | .set _ e | .setC _ e | .tset _ e | .expr e | .ret e => needB n e
  | .six o i e => needB n o && (needB n i && needB n e)
  | .ife c a b => needB n c && (needSB n a && needSB n b)
  | .for_ _ ik its body => ikB n ik && (needB n its && needSB n body)
  | .whl c body => needB n c && needSB n body
  | .own s | .frz _ s => needSB n s
  | _ => true
def globOf (ev : Ev) (n : Need) : Glob := ⟨ev, fun f => f ∈ n.fn, fun x => x ∈ n.va, fun x => x ∈ n.no⟩
theorem ikB_ok {ev : Ev} {n : Need} {ik : ItK} (h : ikB n ik = true) : ikN (globOf ev n) ik := by
  cases ik with
  | val => trivial
  | rng1 => exact List.contains_iff_mem.mp h
  | rng2 => exact List.contains_iff_mem.mp h
theorem needB_ok {ev : Ev} {n : Need} : ∀ (p : PX), needB n p = true → needs (globOf ev n) p := by
  intro p
  induction p with
  | glo x => intro h; exact List.contains_iff_mem.mp h
  | bty x t => intro h; obtain ⟨h1, h2⟩ := and2 h; exact ⟨List.contains_iff_mem.mp h1, tyB_ok h2⟩
  | bin _ a b ia ib | cmp _ a b ia ib | and a b ia ib | or a b ia ib | idx a b ia ib | acons a b ia ib => intro h; obtain ⟨h1, h2⟩ := and2 h; exact ⟨ia h1, ib h2⟩
  | neg a ia | not a ia | lst a ia | tup a ia => intro h; exact ia h
  | chn _ _ a b c ia ib ic | ife a b c ia ib ic | slc a b c ia ib ic => intro h; obtain ⟨h1, h23⟩ := and2 h; obtain ⟨h2, h3⟩ := and2 h23; exact ⟨ia h1, ib h2, ic h3⟩
  | call f as ia => intro h; obtain ⟨h1, h2⟩ := and2 h; exact ⟨List.contains_iff_mem.mp h1, ia h2⟩
  | bi f as ia => intro h; obtain ⟨h1, h2⟩ := and2 h; exact ⟨List.contains_iff_mem.mp h1, ia h2⟩
  | isi a c ia ic => intro h; obtain ⟨h1, h23⟩ := and2 h; obtain ⟨h2, h3⟩ := and2 h23; exact ⟨List.contains_iff_mem.mp h1, ia h2, ic h3⟩
  | mt _ o as io ia => intro h; obtain ⟨h1, h2⟩ := and2 h; exact ⟨io h1, ia h2⟩
  | comp _ _ _ ik its cond elt i1 i2 i3 => intro h; obtain ⟨h1, h⟩ := and2 h; obtain ⟨h2, h⟩ := and2 h; obtain ⟨h3, h4⟩ := and2 h; exact ⟨ikB_ok h1, i1 h2, i2 h3, i3 h4⟩
  | _ => intro _; trivial
theorem needSB_ok {ev : Ev} {n : Need} : ∀ (p : PT), needSB n p = true → needsS (globOf ev n) p := by
  intro p
  induction p with
  | seq s r is ir => intro h; obtain ⟨h1, h2⟩ := and2 h; exact ⟨is h1, ir h2⟩
  | set _ e | setC _ e | tset _ e | expr e | ret e => intro h; exact needB_ok _ h
  | six o i e => intro h; obtain ⟨h1, h23⟩ := and2 h; obtain ⟨h2, h3⟩ := and2 h23; exact ⟨needB_ok _ h1, needB_ok _ h2, needB_ok _ h3⟩
  | ife c a b ia ib => intro h; obtain ⟨h1, h23⟩ := and2 h; obtain ⟨h2, h3⟩ := and2 h23; exact ⟨needB_ok _ h1, ia h2, ib h3⟩
  | for_ _ ik its body ib => intro h; obtain ⟨h1, h23⟩ := and2 h; obtain ⟨h2, h3⟩ := and2 h23; exact ⟨ikB_ok h1, needB_ok _ h2, ib h3⟩
  | whl c body ib => intro h; obtain ⟨h1, h2⟩ := and2 h; exact ⟨needB_ok _ h1, ib h2⟩
  | own s is | frz _ s is => intro h; exact is h
  | _ => intro _; trivial

/-! ### a def of the text -/
def fnScopeB (N ps : List Str) (sc : Scope) : Bool := sc.kind == .function && !sc.isCoroutine && !sc.isGenerator && nodupB N && N.take ps.length == ps &&
  ps.all (fun x => sc.names.lookup x == some .local || sc.names.lookup x == some .cell) && sc.names.all fun y => y.2 != .free
theorem fnScopeB_ok {N ps : List Str} {sc : Scope} (h : fnScopeB N ps sc = true) : FnScope N ps sc := by
  simp only [fnScopeB, Bool.and_eq_true, List.all_eq_true, Bool.or_eq_true, beq_iff_eq, Bool.not_eq_true', bne_iff_ne, ne_eq] at h
  obtain ⟨⟨⟨⟨⟨⟨h1, h2⟩, h3⟩, h4⟩, h5⟩, h6⟩, h7⟩ := h
  exact ⟨h1, h2, h3, nodupB_ok h4, h5, h6, h7⟩
def defB (n : Need) (b : PT) (N ps : List Str) (st : Stmt) : Bool := fnScopeB N ps (defScope st) && chkS b ⟨N, defScope st⟩ (defBody st) && needSB n b
/-- the names' values at the entry -/
def parS : Bool → D → Sl
  | true, .list ds => .bor (.list ds)
  | _, d => .fro d
def parP : List Bool → List D → PSt
  | _, [] => []
  | m, d :: ds => some (parS (m.headD false) d) :: parP m.tail ds
def startP (N : List Str) (md : List Bool) (ds : List D) : PSt := parP md ds ++ List.replicate (N.length - ds.length) none
def endsP (P : PSp) (Q : D → Prop) : PEnds where
  nx := fun _ => P.nw = false ∧ Q .none
  rt := fun d k => (P.nw = true → k = .new) ∧ Q d
/-- what the module holds: constants by their values -/
def vaOf (mg : Str → Option Value) (x : Str) : V := ((mg x).bind absV).getD .non
def evOf (K : PySem.W.Frag) (mg : Str → Option Value) (Ψ : PEv) : Ev := ⟨fun f => lift K (Ψ.sp f), vaOf mg⟩
structure ValsOk (K : PySem.W.Frag) (mg : Str → Option Value) (Ψ : PEv) (va : List Str) : Prop where
  rep : ∀ x d, Ψ.va x = some d → ∀ F, Rep K F (vaOf mg x) d
  has : ∀ x ∈ va, ∃ u v, mg x = some u ∧ absV u = some v
theorem rel_abs {u : Value} {v : V} (h : absV u = some v) : RelV v u := by
  cases u <;> simp [absV] at h <;> subst h <;> first | rfl | exact ⟨_, rfl⟩
section
variable {P : Program} {w : World} {K : PySem.W.Frag} {mg : Str → Option Value} {base : Heap} {Ψ : PEv}
def Have (P : Program) (w : World) (K : PySem.W.Frag) (mg : Str → Option Value) (base : Heap) (Ψ : PEv) (k : Nat) (f : Str) : Prop :=
  ∃ (a : Addr) (fd : FuncData) (ps : List Str), FnOk P w K mg base CX0 k a fd ps (lift K (Ψ.sp f)) ∧ mg f = some (.ref a) ∧ PySem.W.keepIn K (.ref a) = true ∧ Binds K fd ps []
theorem Have.mono {j k : Nat} {f : Str} (h : Have P w K mg base Ψ j f) (hk : j ≤ k) : Have P w K mg base Ψ k f := by
  obtain ⟨a, fd, ps, h1, h2⟩ := h
  exact ⟨a, fd, ps, h1.mono hk, h2⟩
theorem ArgsR.length {F H : Hp} : ∀ {m : List Bool} {vs : List V} {ds : List D}, ArgsR K F H m vs ds → vs.length = ds.length
  | _, [], [], _ => rfl
  | _, [], _ :: _, h => h.elim
  | _, _ :: _, [], h => h.elim
  | m, v :: vs, d :: ds, h => by rw [List.length_cons, List.length_cons, ArgsR.length h.2.2]
theorem parP_len : ∀ (m : List Bool) (ds : List D), (parP m ds).length = ds.length
  | _, [] => rfl
  | m, d :: ds => by unfold parP; rw [List.length_cons, List.length_cons, parP_len]
theorem args_get {F H : Hp} : ∀ {m : List Bool} {vs : List V} {ds : List D}, ArgsR K F H m vs ds → ∀ (i : Nat) s, (parP m ds)[i]? = some (some s) → ∃ v, vs[i]? = some v ∧ ((∃ d, s = .fro d ∧ Rep K F v d) ∨ ∃ es, s = .bor (.list es) ∧ SRep K F H v (.list es))
  | _, [], [], _, i, s, e => by simp [parP] at e
  | _, [], _ :: _, h, _, _, _ => h.elim
  | _, _ :: _, [], h, _, _, _ => h.elim
  | m, v :: vs, d :: ds, h, 0, s, e => by
    simp only [parP, List.getElem?_cons_zero, Option.some.injEq] at e
    subst e
    refine ⟨v, rfl, ?_⟩
    cases hm : m.headD false with
    | false =>
      have e : parS false d = .fro d := by cases d <;> rfl
      exact .inl ⟨d, e, h.2.1 hm⟩
    | true =>
      have nl : (∀ es, d ≠ .list es) → Rep K F v d := fun n => by
        rcases h.1 with q | ⟨a, xs, ds', _, e, _⟩
        · exact q
        · exact absurd e (n ds')
      cases d with
      | list es => exact .inr ⟨es, rfl, h.1⟩
      | _ => exact .inl ⟨_, rfl, nl fun _ z => by cases z⟩
  | m, v :: vs, d :: ds, h, i + 1, s, e => by
    simp only [parP, List.getElem?_cons_succ] at e
    obtain ⟨u, h1, h2⟩ := args_get h.2.2 i s e
    exact ⟨u, by simpa using h1, h2⟩
/-- at a def's entry -/
theorem start_ok {O : Addr → Prop} {F H : Hp} {N : List Str} {m : List Bool} {vs : List V} {ds : List D} (f : Same F H) (no : ∀ b, O b → F b = none ∧ H b ≠ none) (h : ArgsR K F H m vs ds) :
    ∃ β, PInv K β O F H F H (startP N m ds) (start N vs) := by
  classical
  have hl := h.length
  have sl0 : ∀ (i : Nat) s, (startP N m ds)[i]? = some (some s) → ∃ v, (start N vs)[i]? = some (some v) ∧ ((∃ d, s = .fro d ∧ Rep K F v d) ∨ ∃ es, s = .bor (.list es) ∧ SRep K F H v (.list es)) := fun i s e => by
    unfold startP at e
    unfold start
    rcases Nat.lt_or_ge i ds.length with z | z
    · rw [List.getElem?_append_left (by rw [parP_len]; exact z)] at e
      obtain ⟨v, h1, h2⟩ := args_get h i s e
      refine ⟨v, ?_, h2⟩
      rw [List.getElem?_append_left (by rw [List.length_map, hl]; exact z), List.getElem?_map, h1]
      rfl
    · rw [List.getElem?_append_right (by rw [parP_len]; exact z), List.getElem?_replicate] at e
      split at e <;> cases e
  have ex : ∀ i : Nat, ∃ o : Option (Addr × List V), (∀ es, (startP N m ds)[i]? = some (some (.bor (.list es))) → ∃ a xs, o = some (a, xs) ∧ (start N vs)[i]? = some (some (.ref a)) ∧ Reps K F xs es) ∧ ∀ a xs, o = some (a, xs) → SqL K H a xs := fun i => by
    by_cases hb : ∃ es, (startP N m ds)[i]? = some (some (.bor (.list es)))
    · obtain ⟨es, he⟩ := hb
      obtain ⟨v, h1, h2⟩ := sl0 i _ he
      rcases h2 with ⟨d, e, _⟩ | ⟨es', e, r⟩
      · cases e
      · cases e
        obtain ⟨a, xs, rfl, hq, rp⟩ := r.list f
        refine ⟨some (a, xs), fun es' e' => ?_, fun a' xs' e => by cases e; exact hq⟩
        rw [he] at e'
        cases e'
        exact ⟨a, xs, rfl, h1, rp⟩
    · exact ⟨none, fun es e => absurd ⟨es, e⟩ hb, fun a xs e => by cases e⟩
  obtain ⟨β, hβ⟩ := Classical.axiomOfChoice ex
  refine ⟨β, ⟨.refl _, .refl _, f, fun b hb => (no b hb).1⟩, fun b hb => (no b hb).2, fun i => (hβ i).2, ?_, fun i s e => ?_, fun i j a d d' h1 => ?_⟩
  · unfold startP start
    rw [List.length_append, List.length_append, parP_len, List.length_map, List.length_replicate, List.length_replicate, hl]
  · obtain ⟨v, h1, h2⟩ := sl0 i s e
    refine ⟨v, h1, ?_⟩
    rcases h2 with ⟨d, rfl, r⟩ | ⟨es, rfl, r⟩
    · exact r
    · obtain ⟨a, xs, g1, g2, g3⟩ := (hβ i).1 es e
      rw [h1] at g2
      cases g2
      exact ⟨a, xs, es, rfl, rfl, g1, g3⟩
  · exfalso
    obtain ⟨v, _, h2⟩ := sl0 i _ h1
    rcases h2 with ⟨d, e, _⟩ | ⟨es, e, _⟩ <;> cases e
/-- THE RULE for a def, by its values -/
theorem fn_def {x qual : Str} {st : Stmt} {f : Addr} {fd : FuncData} {N ps : List Str} {k : Nat} {b : PT} {n : Need} (F : Fun K x qual st f fd) (chk : defB n b N ps st = true)
    (fns : ∀ g ∈ n.fn, Have P w K mg base Ψ k g) (vals : ValsOk K mg Ψ n.va) (nos : ∀ y ∈ n.no, mg y = none)
    (body : ∀ ds Q E, (Ψ.sp x).run ds Q E → ds.length = ps.length ∧ pws Ψ (fun _ => False) b (endsP (Ψ.sp x) Q) (startP N (Ψ.sp x).md ds)) : FnOk P w K mg base CX0 (k + 1) f fd ps (lift K (Ψ.sp x)) := by
  obtain ⟨c12, c3⟩ := and2 chk
  obtain ⟨c1, c2⟩ := and2 c12
  have S := fnScopeB_ok c1
  refine F.ok S (fun vs H Q E h => ?_) (fun cdv A outer s H vs Q E hr h => ?_)
  · obtain ⟨O, F', ds, h1, h2, h3, h4⟩ := h
    rw [h3.length]
    exact (body ds _ _ h4).1
  · obtain ⟨O, F', ds, h1, h2, h3, h4⟩ := h
    have q := (body ds _ _ h4).2
    have ok : OkS ((cxOf CX0 P w K mg base N qual (defScope st) f cdv A outer s H E).nox) ⟨N, defScope st⟩ (globOf (evOf K mg Ψ) n) E0 := {
      N := rfl
      sc := rfl
      calm := rfl
      un := by have := hr.un; show (A.deeper _).units + 66 < cLine; omega
      fn := fun g hg => by
        obtain ⟨a, gd, gps, g1, g2, g3, g4⟩ := fns g hg
        exact ⟨CX0, k, a, gd, gps, g1, hr, g2, g3, g4, pass0, fun _ _ _ _ _ z => z⟩
      val := fun y hy => by
        obtain ⟨u, v, e1, e2⟩ := vals.has y hy
        refine ⟨u, e1, ?_⟩
        show RelV (vaOf mg y) u
        unfold vaOf
        rw [e1]
        show RelV ((absV u).getD .non) u
        rw [e2]
        exact rel_abs e2
      no := fun y hy => nos y hy
      po := PassesOwn.never
      nd := S.nd
      cel := fun _ => rfl }
    refine ⟨_, (snds b ok c2 (needSB_ok b c3)).1, ?_⟩
    obtain ⟨β, I⟩ := start_ok (N := N) h1 h2 h3
    have g : GOk K (evOf K mg Ψ) Ψ := ⟨fun _ _ _ _ _ h => h, fun y d e F => vals.rep y d e F⟩
    refine psnds g b I (fun _ _ _ _ _ _ z => z.elim) q ⟨?_, ?_, fun _ _ _ _ _ z => z.elim, fun _ _ _ _ _ z => z.elim⟩
    · rintro ρ σ F2 H2 J ⟨q1, q2⟩
      have e : rtK (Ψ.sp x) = .fro := by unfold rtK; rw [q1]; rfl
      exact q2 .non F2 H2 J.ext (by rw [e]; exact .non)
    · rintro v F2 H2 kd d e r hk ⟨q1, q2⟩
      cases hn : (Ψ.sp x).nw with
      | true =>
        have e1 : rtK (Ψ.sp x) = .new := by unfold rtK; rw [hn]; rfl
        have e2 := q1 hn
        subst e2
        exact q2 v F2 H2 e (by rw [e1]; exact r)
      | false =>
        have e1 : rtK (Ψ.sp x) = .fro := by unfold rtK; rw [hn]; rfl
        obtain ⟨F3, e3, _, r3, _⟩ := VRel.keep e.hh e.fh e.no r
        exact q2 v F3 H2 (e.trans e3) (by rw [e1]; exact r3 hk)
theorem have_def {x qual : Str} {st : Stmt} {f : Addr} {fd : FuncData} {N ps : List Str} {k : Nat} {b : PT} {n : Need} (F : Fun K x qual st f fd) (hm : mg x = some (.ref f)) (hb : Binds K fd ps []) (chk : defB n b N ps st = true)
    (fns : ∀ g ∈ n.fn, Have P w K mg base Ψ k g) (vals : ValsOk K mg Ψ n.va) (nos : ∀ y ∈ n.no, mg y = none)
    (body : ∀ ds Q E, (Ψ.sp x).run ds Q E → ds.length = ps.length ∧ pws Ψ (fun _ => False) b (endsP (Ψ.sp x) Q) (startP N (Ψ.sp x).md ds)) : Have P w K mg base Ψ (k + 1) x :=
  ⟨f, fd, ps, fn_def F chk fns vals nos body, hm, F.kp, hb⟩
end
end L2.L3

set_option Elab.async false
set_option linter.all false
set_option maxRecDepth 100000
set_option maxHeartbeats 800000
namespace L2.L3
open PySem PySem.Spec PyProof.Rows

/-! ### the law and the module's top -/
def pLaw : PSp where
  md := [true]
  nw := false
  run := fun ds Q _ => ∃ ns : List Int, ns.length ≤ 63 ∧ (∀ n ∈ ns, Builtin.Int.intBits n ≤ 1048576) ∧ ds = [.list (ns.map PyData.int)] ∧ Q (.bool true)
  mono := fun h _ ⟨ns, h1, h2, h3, q⟩ => ⟨ns, h1, h2, h3, h _ q⟩
def pNo : PSp := ⟨[], false, fun _ _ _ => False, fun _ _ h => h⟩
theorem reps_ints {K : PySem.W.Frag} {F : Hp} : ∀ (ns : List Int), Reps K F (ns.map V.int) (ns.map PyData.int)
  | [] => .nil
  | n :: r => .cons (.int n) (reps_ints r)
theorem reps_strs {K : PySem.W.Frag} {F : Hp} : ∀ (ns : List Str), Reps K F (ns.map V.str) (ns.map PyData.str)
  | [] => .nil
  | n :: r => .cons (.str n) (reps_strs r)
theorem law_sp (K : PySem.W.Frag) (H : Hp) (a : Addr) (ns : List Int) (hl : ns.length ≤ 63) (hw : ∀ n ∈ ns, Builtin.Int.intBits n ≤ 1048576) (hS : SqL K H a (ns.map V.int)) : lift K pLaw [.ref a] H (fun v _ => v = .bl true) fun _ _ _ => False := by
  refine ⟨fun _ => False, fun _ => none, [.list (ns.map PyData.int)], fun _ _ e => (by cases e), fun _ z => z.elim, ?_, ns, hl, hw, rfl, fun v F' H' _ r => ?_⟩
  · exact ⟨.inr ⟨a, _, _, rfl, rfl, hS, reps_ints ns⟩, fun z => (by cases z), trivial⟩
  · cases (show Rep K F' v (.bool true) from r)
    rfl
theorem weight_mem {ns : List Int} : ∀ n ∈ ns, PySem.W.WData.weight (.int n) ≤ PySem.W.WData.weightAll (ns.map PySem.W.WData.int) := by
  induction ns with
  | nil => intro n hn; cases hn
  | cons m ns ih =>
    intro n hn
    show _ ≤ PySem.W.WData.weight (.int m) + 1 + PySem.W.WData.weightAll (ns.map PySem.W.WData.int)
    rcases List.mem_cons.mp hn with rfl | hn
    · omega
    · have := ih n hn
      omega
theorem bits_of {ns : List Int} (h : PySem.W.WData.layableAll [.list (ns.map .int)] = true) : ∀ n ∈ ns, Builtin.Int.intBits n ≤ 1048576 := by
  intro n hn
  have h1 := (PySem.W.layableW_iff.mp (PySem.W.layableW_arg h _ List.mem_cons_self)).2.2
  have h2 : PySem.W.WData.weightAll (ns.map PySem.W.WData.int) ≤ 2 ^ 20 := h1
  have h3 := weight_mem n hn
  have h4 : PySem.W.WData.weight (.int n) = if n == 0 then 0 else n.natAbs.log2 + 1 := rfl
  rw [PySem.intBits_le_iff]
  by_cases hz : n = 0
  · subst hz
    exact Nat.pow_pos (by decide)
  · have : (n == 0) = false := by simpa using hz
    rw [h4, this] at h3
    have h5 : n.natAbs.log2 + 1 ≤ 1048576 := by
      have : n.natAbs.log2 + 1 ≤ PySem.W.WData.weightAll (ns.map PySem.W.WData.int) := h3
      omega
    exact (Nat.log2_lt (show n.natAbs ≠ 0 by omega)).mp (by omega)
/-- the goal that the head leaves, from the law's promise; the script's ints are of at most 2 ^ 20 bits -/
theorem walk_bits {l : PySem.W.OpenLaw} {k : Nat} {q : Program} {loose : List Str} {XP : (Str → Option Value) → Heap → Prop} {YP : World → Heap → Prop} {d : DefRec} {K : Params → PySem.W.Frag} {x : Str}
    (hn : l.most = some 63) (hdf : d.params.defaults = []) (hr : Room k callerA) (hY : ∀ (w : World) (h : Heap), YP w h → (K w.params).In h)
    (F : ∀ (w : World) (mg : Str → Option Value) (fa : Addr) (h : Heap), (K w.params).In h → h.Ns mainGlobals mg → mg d.name = some (.ref fa) →
      ∃ fd : FuncData, (∀ (s : Shared) (u : Value), BindsTo s fd ⟨[u], []⟩ [(x, u)]) ∧
        ∀ base : Heap, (K w.params).In base → base.Ns mainGlobals mg → FnOk l.prog w (K w.params) mg base CX0 k fa fd [x] (lift (K w.params) pLaw)) :
    PySem.W.WalkO q loose XP YP l.row.toRowW d [] (fun f vs => PySem.call f vs) := by
  intro w s₀ s₁ mg mb G Y fa o pm cd doc dV kV ho hd hcd hD hmg hg args vals as hpre hlay hrd hwl hlo
  obtain rfl : dV = .none := PySem.W.Dflts.none hD hdf
  obtain rfl : kV = .none := PySem.W.Dflts.noKw hD
  obtain ⟨a, vs, ns, rfl, rfl, hobj, hints, hlen⟩ := Att.script_of hn hpre hwl
  have KX := hY w _ Y
  obtain ⟨fd, hb, hF⟩ := F w mg fa _ KX G.T.g hmg
  refine PySem.W.enter_call (codeAny_mono (law_call KX G.T.g G.T.b G.T.builtins G.T.nolimit hg hobj hints (Nat.le_trans hlen (by decide)) hr hF hb (fun H hO hS => law_sp _ H a ns hlen (bits_of hlay) hS) fun H e s' => fun z => z) fun r s' hq => ?_)
  obtain ⟨rfl, h2, h3, h4⟩ := hq
  exact ⟨.inl ⟨.bool true, .bool true, [], rfl, fun _ => rfl, .bool true, Att.post_true l _, fun _ => ⟨List.Pairwise.nil, fun _ hm => (nomatch hm)⟩⟩, h2, h3, h4⟩
/-- a def stands at the top -/
def DefAt (K : PySem.W.Frag) (x : Str) (st : Stmt) : Prop := ∃ f fd, PySem.W.nsIn K mainGlobals x = some (some (.ref f)) ∧ Fun K x x st f fd
theorem def_at {K : PySem.W.Frag} {x : Str} {st : Stmt} {f : Addr} {oc : Value} {od an : Option Addr} {osl : Array (Option Value)} {kV doc pm cdv ct : Value} (a : PySem.W.nsIn K mainGlobals x = some (some (.ref f)))
    (l : K.lookup f = some ⟨oc, od, .func (PySem.W.fnOf x x (defArgs st) (defBody st) (defScope st) .none kV doc pm an cdv ct), osl⟩) (c : PySem.W.codeIn K cdv x = true) (k : PySem.W.keepIn K (.ref f) = true) : DefAt K x st :=
  ⟨f, _, a, fun_mk l c k⟩
/-- a number, a text of the top -/
def ValAt (K : PySem.W.Frag) (x : Str) (d : D) : Prop := ∃ u v, PySem.W.nsIn K mainGlobals x = some (some u) ∧ absV u = some v ∧ ∀ F, Rep K F v d
theorem val_int {K : PySem.W.Frag} {x : Str} {i : Int} {t : Tok} (a : PySem.W.nsIn K mainGlobals x = some (some (.int i t))) : ValAt K x (.int i) := ⟨_, _, a, rfl, fun _ => .int i⟩
theorem val_str {K : PySem.W.Frag} {x : Str} {i : Str} {t : Tok} (a : PySem.W.nsIn K mainGlobals x = some (some (.str i t))) : ValAt K x (.str i) := ⟨_, _, a, rfl, fun _ => .str i⟩
theorem val_int' {K : PySem.W.Frag} {x : Str} {i j : Int} {t : Tok} (a : PySem.W.nsIn K mainGlobals x = some (some (.int i t))) (e : i = j) : ValAt K x (.int j) := e ▸ val_int a
theorem val_str' {K : PySem.W.Frag} {x : Str} {i j : Str} {t : Tok} (a : PySem.W.nsIn K mainGlobals x = some (some (.str i t))) (e : i = j) : ValAt K x (.str j) := e ▸ val_str a
/-- a tuple of texts of the top -/
theorem val_strs {K : PySem.W.Frag} {x : Str} {f : Addr} {xs : List Str} {od : Option Addr} {its : List Value} {n : Nat} {sl : Array (Option Value)} (a : PySem.W.nsIn K mainGlobals x = some (some (.ref f)))
    (l : K.lookup f = some ⟨.type "tuple", od, .seq its.toArray n, sl⟩) (h : its.map absV = xs.map fun y => some (.str y)) (hz : xs.length ≤ sizeLine) : ValAt K x (.tuple (xs.map PyData.str)) := by
  refine ⟨_, _, a, rfl, fun F => .tup (.inr ⟨_, its.toArray, n, l, rfl, rfl, ?_, ?_⟩) (reps_strs xs)⟩
  · have := congrArg List.length h
    simp at this
    simp
    omega
  · have key : ∀ (its : List Value) (xs : List Str), its.map absV = xs.map (fun y => some (.str y)) → Vals (xs.map V.str) its := by
      intro its
      induction its with
      | nil =>
        intro xs h
        cases xs with
        | nil => exact .nil
        | cons _ _ => simp at h
      | cons u its ih =>
        intro xs h
        cases xs with
        | nil => simp at h
        | cons y xs =>
          simp only [List.map_cons, List.cons.injEq] at h
          exact .cons (rel_abs h.1) (ih xs h.2)
    simpa using key its xs h
section
variable {P : Program} {w : World} {K : PySem.W.Frag} {mg : Str → Option Value} {base h : Heap} {Ψ : PEv}
theorem ValAt.inMg (X : K.In h) (G : h.Ns mainGlobals mg) {x : Str} {d : D} (v : ValAt K x d) : (∀ F, Rep K F (vaOf mg x) d) ∧ ∃ u v, mg x = some u ∧ absV u = some v := by
  obtain ⟨u, v, h1, h2, h3⟩ := v
  have e := PySem.W.mg_of X G h1
  refine ⟨fun F => ?_, u, v, e, h2⟩
  have : vaOf mg x = v := by
    unfold vaOf
    rw [e]
    show (absV u).getD .non = v
    rw [h2]
    rfl
  rw [this]
  exact h3 F
/-- a def by its values -/
theorem have_at {x : Str} {st : Stmt} {N ps : List Str} {k : Nat} {b : PT} {n : Need} (X : K.In h) (G : h.Ns mainGlobals mg) (D : DefAt K x st) (chk : defB n b N ps st = true)
    (hb : ∀ (kV doc pm : Value) (an : Option Addr) (cdv ct : Value) (us : List Value), us.length = ps.length → bindArgs (PySem.W.fnOf x x (defArgs st) (defBody st) (defScope st) .none kV doc pm an cdv ct) ⟨us, []⟩ = pure (ps.zip us))
    (fns : ∀ g ∈ n.fn, Have P w K mg base Ψ k g) (vals : ValsOk K mg Ψ n.va) (nos : ∀ y ∈ n.no, PySem.W.nsIn K mainGlobals y = some none)
    (body : ∀ ds Q E, (Ψ.sp x).run ds Q E → ds.length = ps.length ∧ pws Ψ (fun _ => False) b (endsP (Ψ.sp x) Q) (startP N (Ψ.sp x).md ds)) : Have P w K mg base Ψ (k + 1) x := by
  obtain ⟨f, fd, a, F⟩ := D
  exact have_def F (PySem.W.mg_of X G a) (F.binds hb) chk fns vals (fun y hy => PySem.W.mg_none_of X G (nos y hy)) body
theorem law_at {x : Str} {st : Stmt} {ps : List Str} {k : Nat} {fa : Addr} (X : K.In h) (G : h.Ns mainGlobals mg) (D : DefAt K "law" st) (hp : ps = [x]) (hfa : mg "law" = some (.ref fa)) (hs : Ψ.sp "law" = pLaw)
    (hb : ∀ (kV doc pm : Value) (an : Option Addr) (cdv ct : Value) (us : List Value), us.length = ps.length → bindArgs (PySem.W.fnOf "law" "law" (defArgs st) (defBody st) (defScope st) .none kV doc pm an cdv ct) ⟨us, []⟩ = pure (ps.zip us))
    (H : ∀ base : Heap, K.In base → base.Ns mainGlobals mg → ∀ f fd, Fun K "law" "law" st f fd → mg "law" = some (.ref f) → FnOk P w K mg base CX0 k f fd ps (lift K (Ψ.sp "law"))) :
    ∃ fd : FuncData, (∀ (s : Shared) (u : Value), BindsTo s fd ⟨[u], []⟩ [(x, u)]) ∧ ∀ base : Heap, K.In base → base.Ns mainGlobals mg → FnOk P w K mg base CX0 k fa fd [x] (lift K pLaw) := by
  obtain ⟨f, fd, a, F⟩ := D
  have e := hfa.symm.trans (PySem.W.mg_of X G a)
  cases e
  subst hp
  refine ⟨fd, fun s u => ?_, fun base kb nb => ?_⟩
  · obtain ⟨oc, od, kV, doc, pm, an, cdv, ct, osl, rfl, lk, hcd⟩ := F.ex
    exact .of_eq (hb kV doc pm an cdv ct [u] rfl)
  · rw [← hs]
    exact H base kb nb fa fd F hfa
end
end L2.L3

set_option Elab.async false
set_option linter.all false
set_option maxRecDepth 100000
set_option maxHeartbeats 800000
namespace L2.L3
open PySem PySem.Spec PyProof.Rows

/-! ### over values alone -/
/-- a comprehension whose element is f of each -/
theorem compD_map {α : Type} {body : D → (Option D → Prop) → Prop} (g f : α → D) : ∀ (l : List α) (acc : List D) (Q : List D → Prop), (∀ x ∈ l, ∀ R : Option D → Prop, R (some (f x)) → body (g x) R) → acc.length + l.length ≤ sizeLine → Q (acc ++ l.map f) → compD body (l.map g) acc Q
  | [], acc, Q, _, hl, q => by
    simp only [List.map_nil, compD]
    exact ⟨by simpa using hl, by simpa using q⟩
  | x :: r, acc, Q, hb, hl, q => by
    simp only [List.map_cons, compD]
    refine hb x List.mem_cons_self _ ?_
    simp only [List.length_cons] at hl
    refine ⟨by omega, compD_map g f r _ Q (fun y hy => hb y (List.mem_cons_of_mem _ hy)) (by simp; omega) (by simpa using q)⟩
/-- a comprehension that keeps those of p -/
theorem compD_filter {α : Type} {body : D → (Option D → Prop) → Prop} (g f : α → D) (p : α → Bool) : ∀ (l : List α) (acc : List D) (Q : List D → Prop), (∀ x ∈ l, ∀ R : Option D → Prop, R (if p x = true then some (f x) else none) → body (g x) R) → acc.length + l.length ≤ sizeLine → Q (acc ++ (l.filter p).map f) → compD body (l.map g) acc Q
  | [], acc, Q, _, hl, q => by
    simp only [List.map_nil, compD]
    exact ⟨by simpa using hl, by simpa using q⟩
  | x :: r, acc, Q, hb, hl, q => by
    simp only [List.map_cons, compD]
    refine hb x List.mem_cons_self _ ?_
    simp only [List.length_cons] at hl
    cases hp : p x with
    | true =>
      refine ⟨by omega, compD_filter g f p r _ Q (fun y hy => hb y (List.mem_cons_of_mem _ hy)) (by simp; omega) ?_⟩
      rw [List.filter_cons, if_pos hp] at q
      simpa using q
    | false =>
      refine compD_filter g f p r _ Q (fun y hy => hb y (List.mem_cons_of_mem _ hy)) (by omega) ?_
      rw [List.filter_cons, if_neg (by rw [hp]; simp)] at q
      exact q
theorem atI_pos {α : Type} {xs : List α} {i : Int} (h0 : 0 ≤ i) (h1 : i < xs.length) : ∃ v, atI xs i = some v ∧ xs[i.toNat]? = some v := by
  have h : i.toNat < xs.length := by omega
  have e : ((i.toNat : Nat) : Int) = i := by omega
  have q := atI_nat (List.getElem?_eq_getElem h)
  rw [e] at q
  exact ⟨xs[i.toNat], q, List.getElem?_eq_getElem h⟩
theorem chk63 : (2 : Nat) ^ 62 = 4611686018427387904 := by decide
/-- an equation between what a text is worth and what it is: by the kernel -/
theorem str_len_le (s : Str) {n : Nat} (h : s.length ≤ n) (hn : n ≤ 16777216) : s.length ≤ sizeLine := by rw [sizeLine_eq]; omega
end L2.L3

set_option Elab.async false
set_option linter.all false
set_option maxRecDepth 100000
set_option maxHeartbeats 1600000
namespace L2.L3
open PySem PySem.Spec PyProof.Rows

/-! ### what is wanted may be weakened -/
section
variable {Q Q' : DK} {B B' : Bool → Prop}
theorem binD_mono (m : ∀ d k, Q d k → Q' d k) {op : Operator} {a b : D} (h : binD op a b Q) : binD op a b Q' := by
  unfold binD at h ⊢
  split <;> simp only at h <;> first
    | exact m _ _ h
    | exact ⟨h.1, m _ _ h.2⟩
    | exact ⟨h.1, h.2.1, m _ _ h.2.2⟩
    | exact h
theorem eqD_mono (m : ∀ k, B k → B' k) {a b : D} (h : eqD a b B) : eqD a b B' := by
  unfold eqD at h ⊢
  split at h
  · exact m _ h
  · exact m _ h
  · exact m _ h
  · exact ⟨h.1, h.2.1, m _ h.2.2⟩
theorem inD_mono (m : ∀ k, B k → B' k) {a b : D} (h : inD a b B) : inD a b B' := by
  unfold inD at h ⊢
  split at h
  · exact m _ h
  · exact ⟨h.1, m _ h.2⟩
  · exact ⟨h.1, m _ h.2⟩
  · exact h.elim
theorem ordD_mono {f : Int → Int → Bool} (m : ∀ k, B k → B' k) {a b : D} (h : ordD f a b B) : ordD f a b B' := by
  unfold ordD at h ⊢
  split at h
  · exact m _ h
  · exact h.elim
theorem isND_mono (m : ∀ k, B k → B' k) {a b : D} (h : isND a b B) : isND a b B' := by
  unfold isND at h ⊢
  split at h
  · exact m _ h
  · exact h.elim
theorem cmpD_mono (m : ∀ k, B k → B' k) {op : CmpOp} {a b : D} (h : cmpD op a b B) : cmpD op a b B' := by
  cases op with
  | Eq => exact eqD_mono m h
  | NotEq => exact eqD_mono (fun k => m (!k)) h
  | Lt => exact ordD_mono m h
  | LtE => exact ordD_mono m h
  | Gt => exact ordD_mono m h
  | GtE => exact ordD_mono m h
  | In => exact inD_mono m h
  | NotIn => exact inD_mono (fun k => m (!k)) h
  | Is => exact isND_mono m h
  | IsNot => exact isND_mono (fun k => m (!k)) h
theorem truD_mono (m : ∀ k, B k → B' k) {a : D} (h : truD a B) : truD a B' := by
  unfold truD at h ⊢
  split at h <;> first | exact m _ h | exact ⟨h.1, m _ h.2⟩ | exact h.elim
theorem asD_mono (m : ∀ k, B k → B' k) {a : D} (h : asD a B) : asD a B' := by
  unfold asD at h ⊢
  split at h
  · exact m _ h
  · exact h.elim
theorem idxD_mono (m : ∀ d k, Q d k → Q' d k) {a b : D} (h : idxD a b Q) : idxD a b Q' := by
  unfold idxD at h ⊢
  split at h
  · obtain ⟨h1, c, h2, q⟩ := h; exact ⟨h1, c, h2, m _ _ q⟩
  · obtain ⟨c, h2, q⟩ := h; exact ⟨c, h2, m _ _ q⟩
  · obtain ⟨c, h2, q⟩ := h; exact ⟨c, h2, m _ _ q⟩
  · exact h.elim
theorem slcD_mono (m : ∀ d k, Q d k → Q' d k) {a : D} {lo hi : Option Int} (h : slcD a lo hi Q) : slcD a lo hi Q' := by
  unfold slcD at h ⊢
  split at h
  · exact ⟨h.1, m _ _ h.2⟩
  · exact m _ _ h
  · exact ⟨h.1, m _ _ h.2⟩
  · exact h.elim
theorem partD_mono {P P' : Option Int → Prop} (m : ∀ o, P o → P' o) {a : D} (h : partD a P) : partD a P' := by
  unfold partD at h ⊢
  split at h
  · exact m _ h
  · exact h.elim
theorem isiD_mono (m : ∀ k, B k → B' k) {c : PX} {a : D} (h : isiD c a B) : isiD c a B' := by
  unfold isiD at h ⊢
  split at h
  · obtain ⟨b, h1, h2, q⟩ := h; exact ⟨b, h1, h2, m _ q⟩
  · exact h.elim
theorem biD_mono (m : ∀ d k, Q d k → Q' d k) {f : Bi} {ds : List D} (h : biD f ds Q) : biD f ds Q' := by
  unfold biD at h ⊢
  split at h <;> first
    | exact m _ _ h
    | exact ⟨h.1, m _ _ h.2⟩
    | (obtain ⟨bs, e, q⟩ := h; exact ⟨bs, e, m _ _ q⟩)
    | (obtain ⟨h1, n, e, q⟩ := h; exact ⟨h1, n, e, m _ _ q⟩)
    | exact h.elim
theorem mtD_mono (m : ∀ d k, Q d k → Q' d k) {f : Mt} {a : D} {ds : List D} (h : mtD f a ds Q) : mtD f a ds Q' := by
  unfold mtD at h ⊢
  split at h
  · exact ⟨h.1, h.2.1, h.2.2.1, m _ _ h.2.2.2⟩
  · exact m _ _ h
  · exact ⟨h.1, m _ _ h.2⟩
  · exact h.elim
theorem itemsD_mono {R R' : List D → Prop} (m : ∀ l, R l → R' l) {ik : ItK} {ds : List D} (h : itemsD ik ds R) : itemsD ik ds R' := by
  unfold itemsD at h ⊢
  split at h <;> first | exact m _ h | exact ⟨h.1, m _ h.2⟩ | exact h.elim
theorem bindD_mono {P P' : PSt → Prop} (m : ∀ ρ, P ρ → P' ρ) {tg : Tg} {d : D} {ρ : PSt} (h : bindD tg d ρ P) : bindD tg d ρ P' := by
  unfold bindD at h ⊢
  split at h
  · exact m _ h
  · obtain ⟨ρ', e, q⟩ := h; exact ⟨ρ', e, m _ q⟩
  · exact h.elim
theorem rdV_mono (m : ∀ d k, Q d k → Q' d k) : ∀ {o : Option (Option Sl)}, rdV o Q → rdV o Q'
  | some (some (.fro _)), h => m _ _ h
  | some (some (.own _)), h => m _ _ h
  | some (some (.bor _)), h => m _ _ h
  | some none, h => h
  | none, h => h
theorem rdR_mono (m : ∀ d k, Q d k → Q' d k) : ∀ {o : Option (Option Sl)}, rdR o Q → rdR o Q'
  | some (some (.fro _)), h => m _ _ h
  | some (some (.own _)), h => m _ _ h
  | some (some (.bor _)), h => h
  | some none, h => h
  | none, h => h
theorem compD_mono {body : D → (Option D → Prop) → Prop} (hb : ∀ x R R', (∀ o, R o → R' o) → body x R → body x R') {P P' : List D → Prop} (m : ∀ l, P l → P' l) : ∀ (xs acc : List D), compD body xs acc P → compD body xs acc P'
  | [], acc, h => ⟨h.1, m _ h.2⟩
  | x :: xs, acc, h => by
    unfold compD at h ⊢
    refine hb x _ _ (fun o q => ?_) h
    cases o with
    | none => exact compD_mono hb m xs acc q
    | some y => exact ⟨q.1, compD_mono hb m xs _ q.2⟩
end
structure PMono (Ψ : PEv) (p : PX) : Prop where
  e : ∀ {E : XE} {ρ : PSt} {Q Q' : DK}, (∀ d k, Q d k → Q' d k) → (pe Ψ p E).e ρ Q → (pe Ψ p E).e ρ Q'
  t : ∀ {E : XE} {ρ : PSt} {Q Q' : Bool → Prop}, (∀ k, Q k → Q' k) → (pe Ψ p E).t ρ Q → (pe Ψ p E).t ρ Q'
  a : ∀ {E : XE} {ρ : PSt} {Q Q' : List (D × Kd) → Prop}, (∀ l, Q l → Q' l) → (pe Ψ p E).a ρ Q → (pe Ψ p E).a ρ Q'
section
variable {Ψ : PEv}
theorem PMono.of_e {p : PX} (ht : ∀ E ρ Q, (pe Ψ p E).t ρ Q = (pe Ψ p E).e ρ fun d _ => truD d Q) (ha : ∀ E, (pe Ψ p E).a = nev.a) (he : ∀ {E : XE} {ρ : PSt} {Q Q' : DK}, (∀ d k, Q d k → Q' d k) → (pe Ψ p E).e ρ Q → (pe Ψ p E).e ρ Q') : PMono Ψ p where
  e := he
  t := fun m h => by rw [ht] at h ⊢; exact he (fun _ _ q => truD_mono m q) h
  a := fun m h => by rw [ha] at h; exact h.elim
theorem PMono.of_0 {p : PX} (ht : ∀ E, (pe Ψ p E).t = nev.t) (ha : ∀ E, (pe Ψ p E).a = nev.a) (he : ∀ {E : XE} {ρ : PSt} {Q Q' : DK}, (∀ d k, Q d k → Q' d k) → (pe Ψ p E).e ρ Q → (pe Ψ p E).e ρ Q') : PMono Ψ p where
  e := he
  t := fun m h => by rw [ht] at h; exact h.elim
  a := fun m h => by rw [ha] at h; exact h.elim
theorem PMono.of_t {p : PX} (ht : ∀ E ρ Q, (pe Ψ p E).e ρ Q = (pe Ψ p E).t ρ fun b => Q (.bool b) .fro) (ha : ∀ E, (pe Ψ p E).a = nev.a) (he : ∀ {E : XE} {ρ : PSt} {Q Q' : Bool → Prop}, (∀ k, Q k → Q' k) → (pe Ψ p E).t ρ Q → (pe Ψ p E).t ρ Q') : PMono Ψ p where
  e := fun m h => by rw [ht] at h ⊢; exact he (fun _ q => m _ _ q) h
  t := he
  a := fun m h => by rw [ha] at h; exact h.elim
theorem ite_mono {c : Bool} {A A' B B' : Prop} (h1 : A → A') (h2 : B → B') (h : if c = true then A else B) : if c = true then A' else B' := by
  cases c with
  | true => exact h1 h
  | false => exact h2 h
theorem pmono : ∀ (p : PX), PMono Ψ p
  | .var i => .of_e (fun _ _ _ => rfl) (fun _ => rfl) fun m h => rdV_mono m h
  | .int i => ⟨fun m h => m _ _ h, fun m h => m _ h, fun m h => h.elim⟩
  | .str x => ⟨fun m h => m _ _ h, fun m h => h.elim, fun m h => h.elim⟩
  | .bl b => ⟨fun m h => m _ _ h, fun m h => m _ h, fun m h => h.elim⟩
  | .non => ⟨fun m h => m _ _ h, fun m h => m _ h, fun m h => h.elim⟩
  | .glo x => .of_e (fun _ _ _ => rfl) (fun _ => rfl) fun {E ρ Q Q'} m h => by
    have h2 : (match Ψ.va x with | some d => Q d .fro | none => False) := h
    show (match Ψ.va x with | some d => Q' d .fro | none => False)
    cases e : Ψ.va x with
    | none => rw [e] at h2; exact h2.elim
    | some d => rw [e] at h2; exact m _ _ h2
  | .bty _ _ => ⟨fun m h => h.elim, fun m h => h.elim, fun m h => h.elim⟩
  | .bin op a b => .of_e (fun _ _ _ => rfl) (fun _ => rfl) fun m h => (pmono a).e (fun _ _ q => (pmono b).e (fun _ _ q => binD_mono m q) q) h
  | .neg a => .of_0 (fun _ => rfl) (fun _ => rfl) fun m h => (pmono a).e (fun d _ q => by cases d <;> first | exact m _ _ q | exact q.elim) h
  | .cmp op a b => .of_t (fun _ _ _ => rfl) (fun _ => rfl) fun m h => (pmono a).e (fun _ _ q => (pmono b).e (fun _ _ q => cmpD_mono m q) q) h
  | .chn o p a b c => .of_t (fun _ _ _ => rfl) (fun _ => rfl) fun m h => (pmono a).e (fun _ _ q => (pmono b).e (fun _ _ q => cmpD_mono (fun k q => ite_mono (fun q => (pmono c).e (fun _ _ q => cmpD_mono m q) q) (m _) q) q) q) h
  | .and a b => ⟨fun m h => (pmono a).e (fun _ _ q => asD_mono (fun k q => ite_mono (fun q => (pmono b).e m q) (m _ _) q) q) h, fun m h => (pmono a).t (fun k q => ite_mono (fun q => (pmono b).t m q) (m _) q) h, fun m h => h.elim⟩
  | .or a b => ⟨fun m h => (pmono a).e (fun _ _ q => asD_mono (fun k q => ite_mono (m _ _) (fun q => (pmono b).e m q) q) q) h, fun m h => (pmono a).t (fun k q => ite_mono (m _) (fun q => (pmono b).t m q) q) h, fun m h => h.elim⟩
  | .not a => ⟨fun m h => (pmono a).e (fun _ _ q => truD_mono (fun k q => m _ _ q) q) h, fun m h => (pmono a).t (fun k q => m _ q) h, fun m h => h.elim⟩
  | .ife c a b => .of_0 (fun _ => rfl) (fun _ => rfl) fun m h => (pmono c).t (fun k q => ite_mono (fun q => (pmono a).e m q) (fun q => (pmono b).e m q) q) h
  | .call f as => .of_e (fun _ _ _ => rfl) (fun _ => rfl) fun m h => (pmono as).a (fun l q => ⟨q.1, (Ψ.sp f).mono (fun d q => m _ _ q) (fun _ q => q) q.2⟩) h
  | .isi a c => .of_t (fun _ _ _ => rfl) (fun _ => rfl) fun m h => (pmono a).e (fun _ _ q => isiD_mono m q) h
  | .bi f as => .of_e (fun _ _ _ => rfl) (fun _ => rfl) fun m h => (pmono as).a (fun l q => biD_mono m q) h
  | .mt mm o as => .of_e (fun _ _ _ => rfl) (fun _ => rfl) fun m h => (pmono o).e (fun _ _ q => ⟨q.1, (pmono as).a (fun l q => mtD_mono m q) q.2⟩) h
  | .idx a b => .of_e (fun _ _ _ => rfl) (fun _ => rfl) fun m h => (pmono a).e (fun _ _ q => (pmono b).e (fun _ _ q => idxD_mono m q) q) h
  | .slc a lo hi => .of_0 (fun _ => rfl) (fun _ => rfl) fun {E ρ Q Q'} m h => by
    have part : ∀ (p : PX), PMono Ψ p → ∀ {P P' : Option Int → Prop}, (∀ o, P o → P' o) → (if isNop p = true then fun (R : Option Int → Prop) => R none else fun R => (pe Ψ p E).e ρ fun l _ => partD l R) P →
        (if isNop p = true then fun (R : Option Int → Prop) => R none else fun R => (pe Ψ p E).e ρ fun l _ => partD l R) P' := by
      intro p ip P P' m h
      cases hn : isNop p with
      | true => simp only [hn, if_true] at h ⊢; exact m _ h
      | false => simp only [hn, Bool.false_eq_true, if_false] at h ⊢; exact ip.e (fun _ _ q => partD_mono m q) h
    exact (pmono a).e (fun _ _ q => part lo (pmono lo) (fun _ q => part hi (pmono hi) (fun _ q => slcD_mono m q) q) q) h
  | .nop => ⟨fun m h => h.elim, fun m h => h.elim, fun m h => h.elim⟩
  | .lst as => .of_0 (fun _ => rfl) (fun _ => rfl) fun m h => (pmono as).a (fun l q => ⟨q.1, q.2.1, m _ _ q.2.2⟩) h
  | .tup as => .of_0 (fun _ => rfl) (fun _ => rfl) fun m h => (pmono as).a (fun l q => ⟨q.1, q.2.1, m _ _ q.2.2⟩) h
  | .comp mask tgs tg ik its cond elt => .of_0 (fun _ => rfl) (fun _ => rfl) fun m h => (pmono its).a (fun l q => itemsD_mono (fun xs q => compD_mono (fun x R R' mo q => by
      unfold compBody at q ⊢
      refine bindD_mono (fun ρ1 q => ?_) q
      have inner : ∀ b : Bool, (if b = true then (pe Ψ elt fun _ => False).e ρ1 fun y k => k.esc = true ∧ R (some y) else R none) → if b = true then (pe Ψ elt fun _ => False).e ρ1 fun y k => k.esc = true ∧ R' (some y) else R' none :=
        fun b q => ite_mono (fun q => (pmono elt).e (fun _ _ q => ⟨q.1, mo _ q.2⟩) q) (mo _) q
      cases hn : isNop cond with
      | true => simp only [hn, if_true] at q ⊢; exact inner true q
      | false => simp only [hn, Bool.false_eq_true, if_false] at q ⊢; exact (pmono cond).t inner q) (fun _ q => m _ _ q) xs [] q) q) h
  | .anil => ⟨fun m h => h.elim, fun m h => h.elim, fun m h => m _ h⟩
  | .acons a as => ⟨fun m h => h.elim, fun m h => h.elim, fun m h => (pmono a).e (fun _ _ q => (pmono as).a (fun l q => m _ q) q) h⟩
structure PEnds.Le (Z Z' : PEnds) : Prop where
  nx : ∀ ρ, Z.nx ρ → Z'.nx ρ
  rt : ∀ d k, Z.rt d k → Z'.rt d k
  bk : ∀ ρ, Z.bk ρ → Z'.bk ρ
  ct : ∀ ρ, Z.ct ρ → Z'.ct ρ
theorem forD_mono {body : PEnds → PSt → Prop} (hb : ∀ (Z Z' : PEnds) (ρ : PSt), Z.Le Z' → body Z ρ → body Z' ρ) {tg : Tg} {Z Z' : PEnds} (hn : ∀ ρ, Z.nx ρ → Z'.nx ρ) (hr : ∀ d k, Z.rt d k → Z'.rt d k) : ∀ (xs : List D) (ρ : PSt), forD body tg Z xs ρ → forD body tg Z' xs ρ
  | [], ρ, h => hn ρ h
  | x :: xs, ρ, h => by
    unfold forD at h ⊢
    refine bindD_mono (fun ρ1 q => ?_) h
    exact hb { Z with nx := fun ρ2 => forD body tg Z xs ρ2, ct := fun ρ2 => forD body tg Z xs ρ2, bk := Z.nx } _ ρ1 ⟨fun ρ2 q => forD_mono hb hn hr xs ρ2 q, hr, hn, fun ρ2 q => forD_mono hb hn hr xs ρ2 q⟩ q
theorem mutL_mono {N N' : D → List D → Prop} (m : ∀ d l, N d l → N' d l) {f : Mt} {ds es : List D} (h : mutL f ds es N) : mutL f ds es N' := by
  unfold mutL at h ⊢
  split at h
  · exact ⟨h.1, m _ _ h.2⟩
  · exact h.elim
theorem ownL_mono {ρ : PSt} {i : Nat} {N N' : List D → Prop} (m : ∀ l, N l → N' l) (h : ownL ρ i N) : ownL ρ i N' := by
  unfold ownL at h ⊢
  generalize ρ[i]? = o at h ⊢
  unfold ownV at h ⊢
  split at h
  · exact m _ h
  · exact h.elim
theorem mutS_mono {E : XE} {f : Mt} {i : Nat} {as : PX} {ρ : PSt} {N N' : D → PSt → Prop} (m : ∀ d ρ, N d ρ → N' d ρ) (h : mutS Ψ E f i as ρ N) : mutS Ψ E f i as ρ N' :=
  ownL_mono (fun _ q => (pmono as).a (fun l q => ⟨q.1, mutL_mono (fun _ _ q => m _ _ q) q.2⟩) q) h
theorem sixD_mono {N N' : List D → Prop} (m : ∀ l, N l → N' l) {ds : List D} {x d : D} (h : sixD ds x d N) : sixD ds x d N' := by
  unfold sixD at h ⊢
  split at h
  · obtain ⟨p, e, q⟩ := h; exact ⟨p, e, m _ q⟩
  · exact h.elim
theorem mutE_mono {o : Option (Mt × Nat × PX)} {A A' : Mt → Nat → PX → Prop} {B B' : Prop} (h1 : ∀ m i as, A m i as → A' m i as) (h2 : B → B') (h : mutE o A B) : mutE o A' B' := by
  unfold mutE at h ⊢
  split at h
  · exact h1 _ _ _ h
  · exact h2 h
theorem pws_mono {E : XE} : ∀ (p : PT) (Z Z' : PEnds) (ρ : PSt), Z.Le Z' → pws Ψ E p Z ρ → pws Ψ E p Z' ρ
  | .nil, _, _, _, m, h => m.nx _ h
  | .seq s r, Z, Z', ρ, m, h => pws_mono s { Z with nx := fun ρ' => pws Ψ E r Z ρ' } { Z' with nx := fun ρ' => pws Ψ E r Z' ρ' } ρ ⟨fun ρ q => pws_mono r Z Z' ρ m q, m.rt, m.bk, m.ct⟩ h
  | .set i e, _, _, _, m, h => mutE_mono (fun _ _ _ q => mutS_mono (fun _ _ q => m.nx _ q) q) (fun q => (pmono e).e (fun _ _ q => ⟨q.1, m.nx _ q.2⟩) q) h
  | .setC i e, _, _, _, m, h => (pmono e).e (fun _ _ q => ⟨q.1, m.nx _ q.2⟩) h
  | .tset is e, _, _, _, m, h => (pmono e).e (fun _ _ q => bindD_mono m.nx q) h
  | .six o i e, Z, Z', ρ, m, h => by
    cases o with
    | var j =>
      have h2 : ownL ρ j fun ds => (pe Ψ e E).e ρ fun d k => k.esc = true ∧ (pe Ψ i E).e ρ fun x _ => sixD ds x d fun es => Z.nx (ρ.set j (some (.own (.list es)))) := h
      exact ownL_mono (fun ds q => (pmono e).e (fun d _ q => ⟨q.1, (pmono i).e (fun x _ q => sixD_mono (fun es q => m.nx _ q) q) q.2⟩) q) h2
    | _ => exact h.elim
  | .expr e, _, _, _, m, h => mutE_mono (fun _ _ _ q => mutS_mono (fun _ _ q => m.nx _ q) q) (fun q => (pmono e).e (fun _ _ q => m.nx _ q) q) h
  | .ret e, Z, Z', ρ, m, h => by
    cases e with
    | var i => exact rdR_mono m.rt (show rdR ρ[i]? Z.rt from h)
    | _ => exact (pmono _).e (fun _ _ q => ⟨q.1, m.rt _ _ q.2⟩) h
  | .retN, _, _, _, m, h => m.rt _ _ h
  | .pass, _, _, _, m, h => m.nx _ h
  | .brk, _, _, _, m, h => m.bk _ h
  | .cnt, _, _, _, m, h => m.ct _ h
  | .ife c a b, Z, Z', ρ, m, h => (pmono c).t (fun k q => ite_mono (fun q => pws_mono a Z Z' ρ m q) (fun q => pws_mono b Z Z' ρ m q) q) h
  | .for_ tg ik its body, Z, Z', ρ, m, h => by
    have h2 : (pe Ψ its E).a (lock (lockVars ρ its) ρ) fun ds => noOwn ds = true ∧ itemsD ik (dsOf ds) fun xs =>
      forD (pws Ψ E body) tg { Z with nx := unlock (lockVars ρ its) ρ Z.nx } xs (lock (lockVars ρ its) ρ) := h
    refine (pmono its).a (fun l q => ⟨q.1, itemsD_mono (fun xs q => ?_) q.2⟩) h2
    exact forD_mono (fun Z Z' ρ m q => pws_mono body Z Z' ρ m q) (Z := { Z with nx := unlock (lockVars ρ its) ρ Z.nx }) (Z' := { Z' with nx := unlock (lockVars ρ its) ρ Z'.nx }) (fun ρ q => ⟨q.1, m.nx _ q.2⟩) m.rt xs _ q
  | .whl c body, Z, Z', ρ, m, ⟨W, w0, turn⟩ => ⟨W, w0, fun n ρ w => (pmono c).t (fun k q => ite_mono (fun q => pws_mono body { Z with nx := fun ρ' => ∃ m', m' < n ∧ W m' ρ', ct := fun ρ' => ∃ m', m' < n ∧ W m' ρ', bk := Z.nx } _ ρ ⟨fun _ q => q, m.rt, m.nx, fun _ q => q⟩ q) (m.nx _) q) (turn n ρ w)⟩
  | .own s, Z, Z', ρ, m, h => by
    cases s with
    | set i e => exact (pmono e).e (fun d k q => ⟨q.1, m.nx _ q.2⟩) h
    | setC i e => exact (pmono e).e (fun d k q => ⟨q.1, m.nx _ q.2⟩) h
    | _ => exact h.elim
  | .frz is s, Z, Z', _, m, h => pws_mono s Z Z' _ m h
/-- one statement, then the rest -/
theorem cut {E : XE} {s r : PT} {Z : PEnds} {ρ : PSt} (M : PSt → Prop) (h : pws Ψ E s { Z with nx := M } ρ) (k : ∀ ρ', M ρ' → pws Ψ E r Z ρ') : pws Ψ E (.seq s r) Z ρ :=
  pws_mono s { Z with nx := M } { Z with nx := fun ρ' => pws Ψ E r Z ρ' } ρ ⟨k, fun _ _ q => q, fun _ q => q, fun _ q => q⟩ h
/-- a loop by what holds ahead of the items that are left -/
theorem for_inv {E : XE} {α : Type} {body : PT} {tg : Tg} {Z : PEnds} (g : α → D) (W : List α → PSt → Prop) (h0 : ∀ ρ, W [] ρ → Z.nx ρ)
    (hs : ∀ x xs ρ, W (x :: xs) ρ → bindD tg (g x) ρ fun ρ1 => pws Ψ E body { Z with nx := W xs, ct := W xs, bk := Z.nx } ρ1) : ∀ (xs : List α) (ρ : PSt), W xs ρ → forD (pws Ψ E body) tg Z (xs.map g) ρ
  | [], ρ, w => h0 ρ w
  | x :: xs, ρ, w => by
    rw [List.map_cons]
    unfold forD
    refine bindD_mono (fun ρ1 q => ?_) (hs x xs ρ w)
    exact pws_mono body { Z with nx := W xs, ct := W xs, bk := Z.nx } _ ρ1 ⟨fun ρ2 w2 => for_inv g W h0 hs xs ρ2 w2, fun _ _ q => q, fun _ q => q, fun ρ2 w2 => for_inv g W h0 hs xs ρ2 w2⟩ q
end
end L2.L3

set_option Elab.async false
set_option linter.all false
set_option maxRecDepth 100000
set_option maxHeartbeats 800000
namespace L2.L3
open PySem PySem.Spec PyProof.Rows
def tblEv (sp : List (Str × PSp)) (va : List (Str × D)) : PEv := ⟨fun f => (sp.lookup f).getD pNo, fun x => va.lookup x⟩
theorem vals_ok {K : PySem.W.Frag} {mg : Str → Option Value} {h : Heap} {sp : List (Str × PSp)} {tbl : List (Str × D)} {va : List Str} (X : K.In h) (G : h.Ns mainGlobals mg) (ht : ∀ p ∈ tbl, ValAt K p.1 p.2)
    (hva : (va.all fun x => (tbl.map Prod.fst).contains x) = true) : ValsOk K mg (tblEv sp tbl) va := by
  refine ⟨fun x d e F => ((ht (x, d) (PySem.mem_of_lookup e)).inMg X G).1 F, fun x hx => ?_⟩
  have := List.all_eq_true.mp hva x hx
  obtain ⟨p, hp, e⟩ := List.mem_map.mp (List.contains_iff_mem.mp this)
  rw [← e]
  exact ((ht p hp).inMg X G).2
theorem sub_of {α : Type} [BEq α] [LawfulBEq α] {l m : List α} (h : (l.all fun x => m.contains x) = true) : ∀ x ∈ l, x ∈ m := fun x hx => List.contains_iff_mem.mp (List.all_eq_true.mp h x hx)
end L2.L3

set_option Elab.async false
set_option linter.all false
set_option maxRecDepth 100000
set_option maxHeartbeats 4000000
namespace L2.L3.Lib
open PySem PySem.Spec PyProof.Rows L2 L2.L3
def N_is_made_of : List Str := ["word", "allowed"]
def ps_is_made_of : List Str := ["word", "allowed"]
def n_is_made_of : Need := ⟨[], [], ["all"]⟩
def b_is_made_of : PT :=
    (.seq (.ret (.bi .all (.acons (.comp [] ["sign"] (.nm 0) .val (.acons (.var 0) .anil) .nop (.cmp .In (.var 0) (.var 2))) .anil)))
    .nil)
def N_is_word : List Str := ["word"]
def ps_is_word : List Str := ["word"]
def n_is_word : Need := ⟨["is_made_of"], ["LETTERS", "MOST_LETTERS"], ["len"]⟩
def b_is_word : PT :=
    (.seq (.ret (.and (.chn .LtE .LtE (.int 1) (.bi .len (.acons (.var 0) .anil)) (.glo "MOST_LETTERS")) (.call "is_made_of" (.acons (.var 0) (.acons (.glo "LETTERS") .anil)))))
    .nil)
def N_is_name : List Str := ["word"]
def ps_is_name : List Str := ["word"]
def n_is_name : Need := ⟨["is_word"], ["KEYWORDS"], []⟩
def b_is_name : PT :=
    (.seq (.ret (.and (.call "is_word" (.acons (.var 0) .anil)) (.cmp .NotIn (.var 0) (.glo "KEYWORDS"))))
    .nil)
def N_l_mixed : List Str := ["_law_cell", "_law_k", "_law_factor"]
def ps_l_mixed : List Str := ["_law_cell", "_law_k"]
def n_l_mixed : Need := ⟨[], [], []⟩
def b_l_mixed : PT :=
    (.seq (.set 2 (.bin .Add (.int 91343852333181432387730302044767688731) (.bin .Mult (.bin .Mult (.int 7919000003) (.var 1)) (.var 1))))
    (.seq (.ret (.bin .Mod (.bin .Mult (.var 0) (.var 2)) (.int 170141183460469231731687303715884105727)))
    .nil))
def N_l_sign_by : List Str := ["_law_n", "_law_some"]
def ps_l_sign_by : List Str := ["_law_n"]
def n_l_sign_by : Need := ⟨[], [], []⟩
def b_l_sign_by : PT :=
    (.seq (.set 1 (.str " !\"#$&'()*+,-./0123456789:;<=>?@ABCDEFGHIJKLMNOPQRSTUVWXYZ[\\]^_`"))
    (.seq (.set 1 (.bin .Add (.var 1) (.str "abcdefghijklmnopqrstuvwxyz{|}~")))
    (.seq (.ret (.idx (.var 1) (.bin .Mod (.var 0) (.int 94))))
    .nil)))
def N_l_keywords : List Str := ["_law_heads"]
def ps_l_keywords : List Str := []
def n_l_keywords : Need := ⟨[], [], []⟩
def b_l_keywords : PT :=
    (.seq (.set 0 (.str "person matter against see tell by at who what since tellers wordings apart leans hidden strike quote"))
    (.seq (.ret (.bin .Add (.mt .split (.var 0) (.acons (.str " ") .anil)) (.lst (.acons (.str "ground") (.acons (.str "cut") .anil)))))
    .nil))
def N_l_letters : List Str := ["_law_n", "_law_size", "_law_word", "_law_k"]
def ps_l_letters : List Str := ["_law_n", "_law_size"]
def n_l_letters : Need := ⟨[], [], ["range"]⟩
def b_l_letters_1 : PT :=
    (.seq (.set 2 (.bin .Add (.var 2) (.idx (.str "abcdefghijklmnopqrstuvwxyz") (.bin .Mod (.var 0) (.int 26)))))
    (.seq (.set 0 (.bin .FloorDiv (.var 0) (.int 26)))
    .nil))
def b_l_letters : PT :=
    (.seq (.set 2 (.str ""))
    (.seq (.for_ (.nm 3) .rng1 (.acons (.var 1) .anil) b_l_letters_1)
    (.seq (.ret (.var 2))
    .nil)))
def N_l_is_word : List Str := ["_law_word", "_law_sign"]
def ps_l_is_word : List Str := ["_law_word"]
def n_l_is_word : Need := ⟨[], [], ["len"]⟩
def b_l_is_word_1 : PT :=
    (.seq (.ife (.cmp .NotIn (.var 1) (.str "abcdefghijklmnopqrstuvwxyz")) (.seq (.ret (.bl false))
    .nil) .nil)
    .nil)
def b_l_is_word : PT :=
    (.seq (.ife (.or (.cmp .Lt (.bi .len (.acons (.var 0) .anil)) (.int 1)) (.cmp .Gt (.bi .len (.acons (.var 0) .anil)) (.int 8))) (.seq (.ret (.bl false))
    .nil) .nil)
    (.seq (.for_ (.nm 1) .val (.acons (.var 0) .anil) b_l_is_word_1)
    (.seq (.ret (.bl true))
    .nil)))
def N_l_is_name : List Str := ["_law_word"]
def ps_l_is_name : List Str := ["_law_word"]
def n_l_is_name : Need := ⟨["_law_keywords", "_law_is_word"], [], []⟩
def b_l_is_name : PT :=
    (.seq (.ret (.and (.call "_law_is_word" (.acons (.var 0) .anil)) (.cmp .NotIn (.var 0) (.call "_law_keywords" .anil))))
    .nil)
def N_number_in : List Str := ["word"]
def ps_number_in : List Str := ["word"]
def n_number_in : Need := ⟨["is_made_of"], ["FIGURES", "MOST_FIGURES"], ["len", "int"]⟩
def b_number_in : PT :=
    (.seq (.ife (.or (.not (.chn .LtE .LtE (.int 1) (.bi .len (.acons (.var 0) .anil)) (.glo "MOST_FIGURES"))) (.not (.call "is_made_of" (.acons (.var 0) (.acons (.glo "FIGURES") .anil))))) (.seq (.ret .non)
    .nil) .nil)
    (.seq (.ife (.and (.cmp .Eq (.idx (.var 0) (.int 0)) (.str "0")) (.cmp .NotEq (.var 0) (.str "0"))) (.seq (.ret .non)
    .nil) .nil)
    (.seq (.ret (.bi .int (.acons (.var 0) .anil)))
    .nil)))
def N_l_number : List Str := ["_law_word", "_law_value", "_law_sign"]
def ps_l_number : List Str := ["_law_word"]
def n_l_number : Need := ⟨[], [], ["len"]⟩
def b_l_number_1 : PT :=
    (.seq (.ife (.cmp .NotIn (.var 2) (.str "0123456789")) (.seq (.ret (.neg (.int 1)))
    .nil) .nil)
    (.seq (.set 1 (.bin .Add (.bin .Mult (.var 1) (.int 10)) (.mt .find (.str "0123456789") (.acons (.var 2) .anil))))
    .nil))
def b_l_number : PT :=
    (.seq (.ife (.or (.cmp .Lt (.bi .len (.acons (.var 0) .anil)) (.int 1)) (.cmp .Gt (.bi .len (.acons (.var 0) .anil)) (.int 9))) (.seq (.ret (.neg (.int 1)))
    .nil) .nil)
    (.seq (.ife (.and (.cmp .Gt (.bi .len (.acons (.var 0) .anil)) (.int 1)) (.cmp .Eq (.idx (.var 0) (.int 0)) (.str "0"))) (.seq (.ret (.neg (.int 1)))
    .nil) .nil)
    (.seq (.set 1 (.int 0))
    (.seq (.for_ (.nm 2) .val (.acons (.var 0) .anil) b_l_number_1)
    (.seq (.ret (.var 1))
    .nil)))))
def madeOf (w a : Str) : Bool := w.cps.toList.all fun c => decide (c ∈ a.cps.toList)
def letters : Str := "abcdefghijklmnopqrstuvwxyz"
def isWord (w : Str) : Bool := decide (1 ≤ w.length) && (decide (w.length ≤ 8) && madeOf w letters)
def keys : List Str := ["person", "matter", "against", "see", "tell", "by", "at", "who", "what", "since", "tellers", "wordings", "apart", "leans", "hidden", "strike", "quote", "ground", "cut"]
def isName (w : Str) : Bool := isWord w && !((keys.map PyData.str).any fun y => PyData.eqv y (.str w))
def mixed (c k : Int) : Int := c * (91343852333181432387730302044767688731 + 7919000003 * k * k) % 170141183460469231731687303715884105727
def sp_is_made_of : PSp where
  md := []
  nw := false
  run := fun ds Q _ => ∃ w a : Str, ds = [.str w, .str a] ∧ w.length ≤ sizeLine ∧ Q (.bool (madeOf w a))
  mono := fun h _ ⟨w, a, e, l, q⟩ => ⟨w, a, e, l, h _ q⟩
def sp_is_word : PSp where
  md := []
  nw := false
  run := fun ds Q _ => ∃ w : Str, ds = [.str w] ∧ w.length ≤ sizeLine ∧ Q (.bool (isWord w))
  mono := fun h _ ⟨w, e, l, q⟩ => ⟨w, e, l, h _ q⟩
def sp_is_name : PSp where
  md := []
  nw := false
  run := fun ds Q _ => ∃ w : Str, ds = [.str w] ∧ w.length ≤ sizeLine ∧ Q (.bool (isName w))
  mono := fun h _ ⟨w, e, l, q⟩ => ⟨w, e, l, h _ q⟩
def sp_mixed : PSp where
  md := []
  nw := false
  run := fun ds Q _ => ∃ c k : Int, ds = [.int c, .int k] ∧ (0 ≤ k ∧ k ≤ 1000000 ∧ Builtin.Int.intBits c ≤ 1048576) ∧ Q (.int (mixed c k))
  mono := fun h _ ⟨c, k, e, l, q⟩ => ⟨c, k, e, l, h _ q⟩
def some94 : Str := " !\"#$&'()*+,-./0123456789:;<=>?@ABCDEFGHIJKLMNOPQRSTUVWXYZ[\\]^_`abcdefghijklmnopqrstuvwxyz{|}~"
def signOf (n : Int) : Nat := some94.cps.toList.getD (n % 94).toNat 0
def sp_sign_by : PSp where
  md := []
  nw := false
  run := fun ds Q _ => ∃ n : Int, ds = [.int n] ∧ Q (.str ⟨#[signOf n]⟩)
  mono := fun h _ ⟨w, e, q⟩ => ⟨w, e, h _ q⟩
def sp_keywords : PSp where
  md := []
  nw := true
  run := fun ds Q _ => ds = [] ∧ Q (.list (keys.map PyData.str))
  mono := fun h _ ⟨e, q⟩ => ⟨e, h _ q⟩
def lettersOf (n : Int) : Nat → List Nat
  | 0 => []
  | k + 1 => (97 + (n % 26).toNat) :: lettersOf (n / 26) k
def lettS (n : Int) (k : Nat) : Str := ⟨(lettersOf n k).toArray⟩
theorem lettersOf_len : ∀ (k : Nat) (n : Int), (lettersOf n k).length = k
  | 0, _ => rfl
  | k + 1, n => congrArg (· + 1) (lettersOf_len k _)
theorem lettS_len (n : Int) (k : Nat) : (lettS n k).length = k := by
  show (lettersOf n k).toArray.size = k
  rw [List.size_toArray, lettersOf_len]
def sp_letters : PSp where
  md := []
  nw := false
  run := fun ds Q _ => ∃ (n s : Int), ds = [.int n, .int s] ∧ (0 ≤ s ∧ s ≤ 100) ∧ Q (.str (lettS n s.toNat))
  mono := fun h _ ⟨n, s, e, l, q⟩ => ⟨n, s, e, l, h _ q⟩
theorem ok_is_made_of {Ψ : PEv} (ds Q E) (h : sp_is_made_of.run ds Q E) : ds.length = ps_is_made_of.length ∧ pws Ψ (fun _ => False) b_is_made_of (endsP sp_is_made_of Q) (startP N_is_made_of sp_is_made_of.md ds) := by
  obtain ⟨w, a, rfl, hl, q⟩ := h
  refine ⟨rfl, ?_⟩
  simp only [b_is_made_of, N_is_made_of, sp_is_made_of, pws, pe, setAllD, entP, maskP, isNop, dsOf, lsOf, escB, noOwn, lentB, lockVars, lock, unlockF, ownAt, ownL, mutOf, isMut, startP, parP, parS, endsP, rdV.eq_1, rdV.eq_2, rdV.eq_3, rdR.eq_1, rdR.eq_2, bindD.eq_1, bindD.eq_2, binD.eq_1, binD.eq_2, binD.eq_3, binD.eq_4, binD.eq_5, binD.eq_6, binD.eq_7, binD.eq_8, binD.eq_9, binD.eq_10, cmpD.eq_1, cmpD.eq_2, cmpD.eq_3, cmpD.eq_4, cmpD.eq_5, cmpD.eq_6, cmpD.eq_7, cmpD.eq_8, cmpD.eq_9, cmpD.eq_10, eqD.eq_1, eqD.eq_2, eqD.eq_3, eqD.eq_4, ordD.eq_1, inD.eq_1, inD.eq_2, inD.eq_3, isND.eq_1, truD.eq_1, truD.eq_2, truD.eq_3, truD.eq_4, truD.eq_5, truD.eq_6, asD.eq_1, idxD.eq_1, idxD.eq_2, idxD.eq_3, slcD.eq_1, slcD.eq_2, slcD.eq_3, partD.eq_1, isiD.eq_1, biD.eq_1, biD.eq_2, biD.eq_3, biD.eq_4, biD.eq_5, biD.eq_6, biD.eq_7, biD.eq_8, biD.eq_9, biD.eq_10, mtD.eq_1, mtD.eq_2, mtD.eq_3, mtTy.eq_1, mtTy.eq_2, mtTy.eq_3, itemsD.eq_1, itemsD.eq_2, itemsD.eq_3, itemsD.eq_4, itemsD.eq_5, ownO.eq_1, ownO.eq_2, ownO.eq_3, ownO.eq_4, ownO.eq_5, mutE.eq_1, mutE.eq_2, ownV.eq_1, sixD.eq_1, mutL.eq_1, Kd.esc.eq_1, Kd.esc.eq_2, Kd.esc.eq_3, Kd.isOwn.eq_1, Kd.isOwn.eq_2, isD.eq_1, isD.eq_2, isD.eq_3, isD.eq_4, isD.eq_5, isD.eq_6, isNonD.eq_1, isNonD.eq_2, List.headD, List.tail, List.length_cons, List.length_nil, List.getElem?_cons_zero, List.getElem?_cons_succ, List.cons_append, List.nil_append, List.replicate, List.set_cons_zero, List.set_cons_succ, Nat.reduceAdd, Nat.reduceSub, Nat.zero_add, Bool.and_true, Bool.true_and, Bool.not_true, Bool.not_false, Bool.or_true, Bool.true_or, Bool.or_false, Bool.false_or, Bool.and_false, Bool.false_and, if_true, if_false, Bool.false_eq_true, true_and, and_true, false_implies, ne_eq, reduceCtorEq, not_false_eq_true, not_true_eq_false, List.map_cons, List.map_nil, implies_true, forall_const, Int.reduceLT, Int.reduceLE, Int.reducePow, Int.reduceNeg, Nat.reducePow, and_self, List.cons.injEq, PyData.int.injEq, PyData.str.injEq, PyData.bool.injEq, PyData.list.injEq, PyData.tuple.injEq, exists_eq_left', exists_eq_left, exists_and_left, exists_eq', exists_eq, exists_const, Option.some.injEq, Sl.fro.injEq, Sl.own.injEq, Sl.bor.injEq, and_assoc, decide_true, decide_false]
  refine compD_map (fun c => .str ⟨#[c]⟩) (fun c => .bool (decide (c ∈ a.cps.toList))) _ _ _ (fun c _ R hR => ?_) (by simpa [Str.length] using hl) ?_
  · simp only [compBody, pws, pe, setAllD, entP, maskP, isNop, dsOf, lsOf, escB, noOwn, lentB, lockVars, lock, unlockF, ownAt, ownL, mutOf, isMut, startP, parP, parS, endsP, rdV.eq_1, rdV.eq_2, rdV.eq_3, rdR.eq_1, rdR.eq_2, bindD.eq_1, bindD.eq_2, binD.eq_1, binD.eq_2, binD.eq_3, binD.eq_4, binD.eq_5, binD.eq_6, binD.eq_7, binD.eq_8, binD.eq_9, binD.eq_10, cmpD.eq_1, cmpD.eq_2, cmpD.eq_3, cmpD.eq_4, cmpD.eq_5, cmpD.eq_6, cmpD.eq_7, cmpD.eq_8, cmpD.eq_9, cmpD.eq_10, eqD.eq_1, eqD.eq_2, eqD.eq_3, eqD.eq_4, ordD.eq_1, inD.eq_1, inD.eq_2, inD.eq_3, isND.eq_1, truD.eq_1, truD.eq_2, truD.eq_3, truD.eq_4, truD.eq_5, truD.eq_6, asD.eq_1, idxD.eq_1, idxD.eq_2, idxD.eq_3, slcD.eq_1, slcD.eq_2, slcD.eq_3, partD.eq_1, isiD.eq_1, biD.eq_1, biD.eq_2, biD.eq_3, biD.eq_4, biD.eq_5, biD.eq_6, biD.eq_7, biD.eq_8, biD.eq_9, biD.eq_10, mtD.eq_1, mtD.eq_2, mtD.eq_3, mtTy.eq_1, mtTy.eq_2, mtTy.eq_3, itemsD.eq_1, itemsD.eq_2, itemsD.eq_3, itemsD.eq_4, itemsD.eq_5, ownO.eq_1, ownO.eq_2, ownO.eq_3, ownO.eq_4, ownO.eq_5, mutE.eq_1, mutE.eq_2, ownV.eq_1, sixD.eq_1, mutL.eq_1, Kd.esc.eq_1, Kd.esc.eq_2, Kd.esc.eq_3, Kd.isOwn.eq_1, Kd.isOwn.eq_2, isD.eq_1, isD.eq_2, isD.eq_3, isD.eq_4, isD.eq_5, isD.eq_6, isNonD.eq_1, isNonD.eq_2, List.headD, List.tail, List.length_cons, List.length_nil, List.getElem?_cons_zero, List.getElem?_cons_succ, List.cons_append, List.nil_append, List.replicate, List.set_cons_zero, List.set_cons_succ, Nat.reduceAdd, Nat.reduceSub, Nat.zero_add, Bool.and_true, Bool.true_and, Bool.not_true, Bool.not_false, Bool.or_true, Bool.true_or, Bool.or_false, Bool.false_or, Bool.and_false, Bool.false_and, if_true, if_false, Bool.false_eq_true, true_and, and_true, false_implies, ne_eq, reduceCtorEq, not_false_eq_true, not_true_eq_false, List.map_cons, List.map_nil, implies_true, forall_const, Int.reduceLT, Int.reduceLE, Int.reducePow, Int.reduceNeg, Nat.reducePow, and_self, List.cons.injEq, PyData.int.injEq, PyData.str.injEq, PyData.bool.injEq, PyData.list.injEq, PyData.tuple.injEq, exists_eq_left', exists_eq_left, exists_and_left, exists_eq', exists_eq, exists_const, Option.some.injEq, Sl.fro.injEq, Sl.own.injEq, Sl.bor.injEq, and_assoc, decide_true, decide_false]
    exact hR
  · refine ⟨w.cps.toList.map fun c => decide (c ∈ a.cps.toList), by simp, ?_⟩
    rw [List.all_map]
    exact q
theorem ok_is_word {Ψ : PEv} (h1 : Ψ.sp "is_made_of" = sp_is_made_of) (v1 : Ψ.va "LETTERS" = some (.str letters)) (v2 : Ψ.va "MOST_LETTERS" = some (.int 8)) (ds Q E) (h : sp_is_word.run ds Q E) :
    ds.length = ps_is_word.length ∧ pws Ψ (fun _ => False) b_is_word (endsP sp_is_word Q) (startP N_is_word sp_is_word.md ds) := by
  obtain ⟨w, rfl, hl, q⟩ := h
  refine ⟨rfl, ?_⟩
  simp only [b_is_word, N_is_word, sp_is_word, h1, v1, v2, sp_is_made_of, pws, pe, setAllD, entP, maskP, isNop, dsOf, lsOf, escB, noOwn, lentB, lockVars, lock, unlockF, ownAt, ownL, mutOf, isMut, startP, parP, parS, endsP, rdV.eq_1, rdV.eq_2, rdV.eq_3, rdR.eq_1, rdR.eq_2, bindD.eq_1, bindD.eq_2, binD.eq_1, binD.eq_2, binD.eq_3, binD.eq_4, binD.eq_5, binD.eq_6, binD.eq_7, binD.eq_8, binD.eq_9, binD.eq_10, cmpD.eq_1, cmpD.eq_2, cmpD.eq_3, cmpD.eq_4, cmpD.eq_5, cmpD.eq_6, cmpD.eq_7, cmpD.eq_8, cmpD.eq_9, cmpD.eq_10, eqD.eq_1, eqD.eq_2, eqD.eq_3, eqD.eq_4, ordD.eq_1, inD.eq_1, inD.eq_2, inD.eq_3, isND.eq_1, truD.eq_1, truD.eq_2, truD.eq_3, truD.eq_4, truD.eq_5, truD.eq_6, asD.eq_1, idxD.eq_1, idxD.eq_2, idxD.eq_3, slcD.eq_1, slcD.eq_2, slcD.eq_3, partD.eq_1, isiD.eq_1, biD.eq_1, biD.eq_2, biD.eq_3, biD.eq_4, biD.eq_5, biD.eq_6, biD.eq_7, biD.eq_8, biD.eq_9, biD.eq_10, mtD.eq_1, mtD.eq_2, mtD.eq_3, mtTy.eq_1, mtTy.eq_2, mtTy.eq_3, itemsD.eq_1, itemsD.eq_2, itemsD.eq_3, itemsD.eq_4, itemsD.eq_5, ownO.eq_1, ownO.eq_2, ownO.eq_3, ownO.eq_4, ownO.eq_5, mutE.eq_1, mutE.eq_2, ownV.eq_1, sixD.eq_1, mutL.eq_1, Kd.esc.eq_1, Kd.esc.eq_2, Kd.esc.eq_3, Kd.isOwn.eq_1, Kd.isOwn.eq_2, isD.eq_1, isD.eq_2, isD.eq_3, isD.eq_4, isD.eq_5, isD.eq_6, isNonD.eq_1, isNonD.eq_2, List.headD, List.tail, List.length_cons, List.length_nil, List.getElem?_cons_zero, List.getElem?_cons_succ, List.cons_append, List.nil_append, List.replicate, List.set_cons_zero, List.set_cons_succ, Nat.reduceAdd, Nat.reduceSub, Nat.zero_add, Bool.and_true, Bool.true_and, Bool.not_true, Bool.not_false, Bool.or_true, Bool.true_or, Bool.or_false, Bool.false_or, Bool.and_false, Bool.false_and, if_true, if_false, Bool.false_eq_true, true_and, and_true, false_implies, ne_eq, reduceCtorEq, not_false_eq_true, not_true_eq_false, List.map_cons, List.map_nil, implies_true, forall_const, Int.reduceLT, Int.reduceLE, Int.reducePow, Int.reduceNeg, Nat.reducePow, and_self, List.cons.injEq, PyData.int.injEq, PyData.str.injEq, PyData.bool.injEq, PyData.list.injEq, PyData.tuple.injEq, exists_eq_left', exists_eq_left, exists_and_left, exists_eq', exists_eq, exists_const, Option.some.injEq, Sl.fro.injEq, Sl.own.injEq, Sl.bor.injEq, and_assoc, decide_true, decide_false]
  refine ⟨hl, ?_⟩
  unfold isWord at q
  split
  · rename_i h1
    have h1' : decide (1 ≤ w.length) = true := by simp at h1 ⊢; omega
    rw [h1'] at q
    split
    · rename_i h2
      have h2' : decide (w.length ≤ 8) = true := by simp at h2 ⊢; omega
      rw [h2'] at q
      exact ⟨hl, q⟩
    · rename_i h2
      have h2' : decide (w.length ≤ 8) = false := by simp at h2 ⊢; omega
      rw [h2'] at q
      exact q
  · rename_i h1
    have h1' : decide (1 ≤ w.length) = false := by simp at h1 ⊢; omega
    rw [h1'] at q
    exact q
theorem keys_flat : (keys.map PyData.str).all flatD = true := by rfl
theorem ok_is_name {Ψ : PEv} (h1 : Ψ.sp "is_word" = sp_is_word) (v1 : Ψ.va "KEYWORDS" = some (.tuple (keys.map PyData.str))) (ds Q E) (h : sp_is_name.run ds Q E) :
    ds.length = ps_is_name.length ∧ pws Ψ (fun _ => False) b_is_name (endsP sp_is_name Q) (startP N_is_name sp_is_name.md ds) := by
  obtain ⟨w, rfl, hl, q⟩ := h
  refine ⟨rfl, ?_⟩
  simp only [b_is_name, N_is_name, sp_is_name, h1, v1, sp_is_word, pws, pe, setAllD, entP, maskP, isNop, dsOf, lsOf, escB, noOwn, lentB, lockVars, lock, unlockF, ownAt, ownL, mutOf, isMut, startP, parP, parS, endsP, rdV.eq_1, rdV.eq_2, rdV.eq_3, rdR.eq_1, rdR.eq_2, bindD.eq_1, bindD.eq_2, binD.eq_1, binD.eq_2, binD.eq_3, binD.eq_4, binD.eq_5, binD.eq_6, binD.eq_7, binD.eq_8, binD.eq_9, binD.eq_10, cmpD.eq_1, cmpD.eq_2, cmpD.eq_3, cmpD.eq_4, cmpD.eq_5, cmpD.eq_6, cmpD.eq_7, cmpD.eq_8, cmpD.eq_9, cmpD.eq_10, eqD.eq_1, eqD.eq_2, eqD.eq_3, eqD.eq_4, ordD.eq_1, inD.eq_1, inD.eq_2, inD.eq_3, isND.eq_1, truD.eq_1, truD.eq_2, truD.eq_3, truD.eq_4, truD.eq_5, truD.eq_6, asD.eq_1, idxD.eq_1, idxD.eq_2, idxD.eq_3, slcD.eq_1, slcD.eq_2, slcD.eq_3, partD.eq_1, isiD.eq_1, biD.eq_1, biD.eq_2, biD.eq_3, biD.eq_4, biD.eq_5, biD.eq_6, biD.eq_7, biD.eq_8, biD.eq_9, biD.eq_10, mtD.eq_1, mtD.eq_2, mtD.eq_3, mtTy.eq_1, mtTy.eq_2, mtTy.eq_3, itemsD.eq_1, itemsD.eq_2, itemsD.eq_3, itemsD.eq_4, itemsD.eq_5, ownO.eq_1, ownO.eq_2, ownO.eq_3, ownO.eq_4, ownO.eq_5, mutE.eq_1, mutE.eq_2, ownV.eq_1, sixD.eq_1, mutL.eq_1, Kd.esc.eq_1, Kd.esc.eq_2, Kd.esc.eq_3, Kd.isOwn.eq_1, Kd.isOwn.eq_2, isD.eq_1, isD.eq_2, isD.eq_3, isD.eq_4, isD.eq_5, isD.eq_6, isNonD.eq_1, isNonD.eq_2, List.headD, List.tail, List.length_cons, List.length_nil, List.getElem?_cons_zero, List.getElem?_cons_succ, List.cons_append, List.nil_append, List.replicate, List.set_cons_zero, List.set_cons_succ, Nat.reduceAdd, Nat.reduceSub, Nat.zero_add, Bool.and_true, Bool.true_and, Bool.not_true, Bool.not_false, Bool.or_true, Bool.true_or, Bool.or_false, Bool.false_or, Bool.and_false, Bool.false_and, if_true, if_false, Bool.false_eq_true, true_and, and_true, false_implies, ne_eq, reduceCtorEq, not_false_eq_true, not_true_eq_false, List.map_cons, List.map_nil, implies_true, forall_const, Int.reduceLT, Int.reduceLE, Int.reducePow, Int.reduceNeg, Nat.reducePow, and_self, List.cons.injEq, PyData.int.injEq, PyData.str.injEq, PyData.bool.injEq, PyData.list.injEq, PyData.tuple.injEq, exists_eq_left', exists_eq_left, exists_and_left, exists_eq', exists_eq, exists_const, Option.some.injEq, Sl.fro.injEq, Sl.own.injEq, Sl.bor.injEq, and_assoc, decide_true, decide_false]
  refine ⟨hl, ?_⟩
  unfold isName at q
  cases hw : isWord w with
  | true =>
    rw [hw] at q
    exact ⟨.inl ⟨rfl, keys_flat⟩, q⟩
  | false =>
    rw [hw] at q
    exact q
theorem ok_mixed {Ψ : PEv} (ds Q E) (h : sp_mixed.run ds Q E) : ds.length = ps_l_mixed.length ∧ pws Ψ (fun _ => False) b_l_mixed (endsP sp_mixed Q) (startP N_l_mixed sp_mixed.md ds) := by
  obtain ⟨c, k, rfl, ⟨h0, h1, hc⟩, q⟩ := h
  refine ⟨rfl, ?_⟩
  simp only [b_l_mixed, N_l_mixed, sp_mixed, pws, pe, setAllD, entP, maskP, isNop, dsOf, lsOf, escB, noOwn, lentB, lockVars, lock, unlockF, ownAt, ownL, mutOf, isMut, startP, parP, parS, endsP, rdV.eq_1, rdV.eq_2, rdV.eq_3, rdR.eq_1, rdR.eq_2, bindD.eq_1, bindD.eq_2, binD.eq_1, binD.eq_2, binD.eq_3, binD.eq_4, binD.eq_5, binD.eq_6, binD.eq_7, binD.eq_8, binD.eq_9, binD.eq_10, cmpD.eq_1, cmpD.eq_2, cmpD.eq_3, cmpD.eq_4, cmpD.eq_5, cmpD.eq_6, cmpD.eq_7, cmpD.eq_8, cmpD.eq_9, cmpD.eq_10, eqD.eq_1, eqD.eq_2, eqD.eq_3, eqD.eq_4, ordD.eq_1, inD.eq_1, inD.eq_2, inD.eq_3, isND.eq_1, truD.eq_1, truD.eq_2, truD.eq_3, truD.eq_4, truD.eq_5, truD.eq_6, asD.eq_1, idxD.eq_1, idxD.eq_2, idxD.eq_3, slcD.eq_1, slcD.eq_2, slcD.eq_3, partD.eq_1, isiD.eq_1, biD.eq_1, biD.eq_2, biD.eq_3, biD.eq_4, biD.eq_5, biD.eq_6, biD.eq_7, biD.eq_8, biD.eq_9, biD.eq_10, mtD.eq_1, mtD.eq_2, mtD.eq_3, mtTy.eq_1, mtTy.eq_2, mtTy.eq_3, itemsD.eq_1, itemsD.eq_2, itemsD.eq_3, itemsD.eq_4, itemsD.eq_5, ownO.eq_1, ownO.eq_2, ownO.eq_3, ownO.eq_4, ownO.eq_5, mutE.eq_1, mutE.eq_2, ownV.eq_1, sixD.eq_1, mutL.eq_1, Kd.esc.eq_1, Kd.esc.eq_2, Kd.esc.eq_3, Kd.isOwn.eq_1, Kd.isOwn.eq_2, isD.eq_1, isD.eq_2, isD.eq_3, isD.eq_4, isD.eq_5, isD.eq_6, isNonD.eq_1, isNonD.eq_2, List.headD, List.tail, List.length_cons, List.length_nil, List.getElem?_cons_zero, List.getElem?_cons_succ, List.cons_append, List.nil_append, List.replicate, List.set_cons_zero, List.set_cons_succ, Nat.reduceAdd, Nat.reduceSub, Nat.zero_add, Bool.and_true, Bool.true_and, Bool.not_true, Bool.not_false, Bool.or_true, Bool.true_or, Bool.or_false, Bool.false_or, Bool.and_false, Bool.false_and, if_true, if_false, Bool.false_eq_true, true_and, and_true, false_implies, ne_eq, reduceCtorEq, not_false_eq_true, not_true_eq_false, List.map_cons, List.map_nil, implies_true, forall_const, Int.reduceLT, Int.reduceLE, Int.reducePow, Int.reduceNeg, Nat.reducePow, and_self, List.cons.injEq, PyData.int.injEq, PyData.str.injEq, PyData.bool.injEq, PyData.list.injEq, PyData.tuple.injEq, exists_eq_left', exists_eq_left, exists_and_left, exists_eq', exists_eq, exists_const, Option.some.injEq, Sl.fro.injEq, Sl.own.injEq, Sl.bor.injEq, and_assoc, decide_true, decide_false]
  refine ⟨CMul.ok (.inr ⟨by omega, by omega⟩), CMul.ok (.inr ⟨by omega, by omega⟩), IntMulOk.of_le (n := 256) hc ?_ (by decide), q⟩
  have h2 : 0 ≤ k * k := Int.mul_nonneg h0 h0
  have h3 : k * k ≤ 1000000 * 1000000 := Int.mul_le_mul h1 h1 h0 (by decide)
  rw [intBits_le_iff, Int.mul_assoc]
  have : (2 : Nat) ^ 256 = 115792089237316195423570985008687907853269984665640564039457584007913129639936 := by decide
  rw [this]
  omega
theorem ok_sign_by {Ψ : PEv} (ds Q E) (h : sp_sign_by.run ds Q E) : ds.length = ps_l_sign_by.length ∧ pws Ψ (fun _ => False) b_l_sign_by (endsP sp_sign_by Q) (startP N_l_sign_by sp_sign_by.md ds) := by
  obtain ⟨n, rfl, q⟩ := h
  refine ⟨rfl, ?_⟩
  have e0 : (Str.ofString " !\"#$&'()*+,-./0123456789:;<=>?@ABCDEFGHIJKLMNOPQRSTUVWXYZ[\\]^_`" ++ Str.ofString "abcdefghijklmnopqrstuvwxyz{|}~") = some94 := by decide +kernel
  simp only [b_l_sign_by, N_l_sign_by, sp_sign_by, e0, pws, pe, setAllD, entP, maskP, isNop, dsOf, lsOf, escB, noOwn, lentB, lockVars, lock, unlockF, ownAt, ownL, mutOf, isMut, startP, parP, parS, endsP, rdV.eq_1, rdV.eq_2, rdV.eq_3, rdR.eq_1, rdR.eq_2, bindD.eq_1, bindD.eq_2, binD.eq_1, binD.eq_2, binD.eq_3, binD.eq_4, binD.eq_5, binD.eq_6, binD.eq_7, binD.eq_8, binD.eq_9, binD.eq_10, cmpD.eq_1, cmpD.eq_2, cmpD.eq_3, cmpD.eq_4, cmpD.eq_5, cmpD.eq_6, cmpD.eq_7, cmpD.eq_8, cmpD.eq_9, cmpD.eq_10, eqD.eq_1, eqD.eq_2, eqD.eq_3, eqD.eq_4, ordD.eq_1, inD.eq_1, inD.eq_2, inD.eq_3, isND.eq_1, truD.eq_1, truD.eq_2, truD.eq_3, truD.eq_4, truD.eq_5, truD.eq_6, asD.eq_1, idxD.eq_1, idxD.eq_2, idxD.eq_3, slcD.eq_1, slcD.eq_2, slcD.eq_3, partD.eq_1, isiD.eq_1, biD.eq_1, biD.eq_2, biD.eq_3, biD.eq_4, biD.eq_5, biD.eq_6, biD.eq_7, biD.eq_8, biD.eq_9, biD.eq_10, mtD.eq_1, mtD.eq_2, mtD.eq_3, mtTy.eq_1, mtTy.eq_2, mtTy.eq_3, itemsD.eq_1, itemsD.eq_2, itemsD.eq_3, itemsD.eq_4, itemsD.eq_5, ownO.eq_1, ownO.eq_2, ownO.eq_3, ownO.eq_4, ownO.eq_5, mutE.eq_1, mutE.eq_2, ownV.eq_1, sixD.eq_1, mutL.eq_1, Kd.esc.eq_1, Kd.esc.eq_2, Kd.esc.eq_3, Kd.isOwn.eq_1, Kd.isOwn.eq_2, isD.eq_1, isD.eq_2, isD.eq_3, isD.eq_4, isD.eq_5, isD.eq_6, isNonD.eq_1, isNonD.eq_2, List.headD, List.tail, List.length_cons, List.length_nil, List.getElem?_cons_zero, List.getElem?_cons_succ, List.cons_append, List.nil_append, List.replicate, List.set_cons_zero, List.set_cons_succ, Nat.reduceAdd, Nat.reduceSub, Nat.zero_add, Bool.and_true, Bool.true_and, Bool.not_true, Bool.not_false, Bool.or_true, Bool.true_or, Bool.or_false, Bool.false_or, Bool.and_false, Bool.false_and, if_true, if_false, Bool.false_eq_true, true_and, and_true, false_implies, ne_eq, reduceCtorEq, not_false_eq_true, not_true_eq_false, List.map_cons, List.map_nil, implies_true, forall_const, Int.reduceLT, Int.reduceLE, Int.reducePow, Int.reduceNeg, Nat.reducePow, and_self, List.cons.injEq, PyData.int.injEq, PyData.str.injEq, PyData.bool.injEq, PyData.list.injEq, PyData.tuple.injEq, exists_eq_left', exists_eq_left, exists_and_left, exists_eq', exists_eq, exists_const, Option.some.injEq, Sl.fro.injEq, Sl.own.injEq, Sl.bor.injEq, and_assoc, decide_true, decide_false]
  have e : some94.length = 94 := by decide +kernel
  refine ⟨by decide +kernel, by rw [e]; decide, ?_⟩
  have e' : (some94.cps.toList).length = 94 := by rw [Array.length_toList]; exact e
  obtain ⟨c, h1, h2⟩ := atI_pos (xs := some94.cps.toList) (i := n % 94) (by omega) (by rw [e']; omega)
  refine ⟨c, h1, ?_⟩
  have : signOf n = c := by
    unfold signOf
    rw [List.getD_eq_getElem?_getD, h2]
    rfl
  rw [← this]
  exact q
theorem split_heads : Txt.split (Str.ofString "person matter against see tell by at who what since tellers wordings apart leans hidden strike quote") (Str.ofString " ") = keys.take 17 := by decide +kernel
theorem ok_keywords {Ψ : PEv} (ds Q E) (h : sp_keywords.run ds Q E) : ds.length = ps_l_keywords.length ∧ pws Ψ (fun _ => False) b_l_keywords (endsP sp_keywords Q) (startP N_l_keywords sp_keywords.md ds) := by
  obtain ⟨rfl, q⟩ := h
  refine ⟨rfl, ?_⟩
  simp only [b_l_keywords, N_l_keywords, sp_keywords, split_heads, pws, pe, setAllD, entP, maskP, isNop, dsOf, lsOf, escB, noOwn, lentB, lockVars, lock, unlockF, ownAt, ownL, mutOf, isMut, startP, parP, parS, endsP, rdV.eq_1, rdV.eq_2, rdV.eq_3, rdR.eq_1, rdR.eq_2, bindD.eq_1, bindD.eq_2, binD.eq_1, binD.eq_2, binD.eq_3, binD.eq_4, binD.eq_5, binD.eq_6, binD.eq_7, binD.eq_8, binD.eq_9, binD.eq_10, cmpD.eq_1, cmpD.eq_2, cmpD.eq_3, cmpD.eq_4, cmpD.eq_5, cmpD.eq_6, cmpD.eq_7, cmpD.eq_8, cmpD.eq_9, cmpD.eq_10, eqD.eq_1, eqD.eq_2, eqD.eq_3, eqD.eq_4, ordD.eq_1, inD.eq_1, inD.eq_2, inD.eq_3, isND.eq_1, truD.eq_1, truD.eq_2, truD.eq_3, truD.eq_4, truD.eq_5, truD.eq_6, asD.eq_1, idxD.eq_1, idxD.eq_2, idxD.eq_3, slcD.eq_1, slcD.eq_2, slcD.eq_3, partD.eq_1, isiD.eq_1, biD.eq_1, biD.eq_2, biD.eq_3, biD.eq_4, biD.eq_5, biD.eq_6, biD.eq_7, biD.eq_8, biD.eq_9, biD.eq_10, mtD.eq_1, mtD.eq_2, mtD.eq_3, mtTy.eq_1, mtTy.eq_2, mtTy.eq_3, itemsD.eq_1, itemsD.eq_2, itemsD.eq_3, itemsD.eq_4, itemsD.eq_5, ownO.eq_1, ownO.eq_2, ownO.eq_3, ownO.eq_4, ownO.eq_5, mutE.eq_1, mutE.eq_2, ownV.eq_1, sixD.eq_1, mutL.eq_1, Kd.esc.eq_1, Kd.esc.eq_2, Kd.esc.eq_3, Kd.isOwn.eq_1, Kd.isOwn.eq_2, isD.eq_1, isD.eq_2, isD.eq_3, isD.eq_4, isD.eq_5, isD.eq_6, isNonD.eq_1, isNonD.eq_2, List.headD, List.tail, List.length_cons, List.length_nil, List.getElem?_cons_zero, List.getElem?_cons_succ, List.cons_append, List.nil_append, List.replicate, List.set_cons_zero, List.set_cons_succ, Nat.reduceAdd, Nat.reduceSub, Nat.zero_add, Bool.and_true, Bool.true_and, Bool.not_true, Bool.not_false, Bool.or_true, Bool.true_or, Bool.or_false, Bool.false_or, Bool.and_false, Bool.false_and, if_true, if_false, Bool.false_eq_true, true_and, and_true, false_implies, ne_eq, reduceCtorEq, not_false_eq_true, not_true_eq_false, List.map_cons, List.map_nil, implies_true, forall_const, Int.reduceLT, Int.reduceLE, Int.reducePow, Int.reduceNeg, Nat.reducePow, and_self, List.cons.injEq, PyData.int.injEq, PyData.str.injEq, PyData.bool.injEq, PyData.list.injEq, PyData.tuple.injEq, exists_eq_left', exists_eq_left, exists_and_left, exists_eq', exists_eq, exists_const, Option.some.injEq, Sl.fro.injEq, Sl.own.injEq, Sl.bor.injEq, and_assoc, decide_true, decide_false]
  exact ⟨by decide +kernel, by decide +kernel, by decide +kernel, by decide, by decide +kernel, q⟩
theorem empty_len : (Str.ofString "").length = 0 := by decide +kernel
theorem alpha_at (n : Int) : atI (Str.ofString "abcdefghijklmnopqrstuvwxyz").cps.toList (n % 26) = some (97 + (n % 26).toNat) := by
  have key : ∀ i : Fin 26, atI (Str.ofString "abcdefghijklmnopqrstuvwxyz").cps.toList ((i.val : Nat) : Int) = some (97 + i.val) := by decide +kernel
  have h := key ⟨(n % 26).toNat, by omega⟩
  have e : (((n % 26).toNat : Nat) : Int) = n % 26 := by omega
  rw [e] at h
  exact h
theorem ok_letters {Ψ : PEv} (ds Q E) (h : sp_letters.run ds Q E) : ds.length = ps_l_letters.length ∧ pws Ψ (fun _ => False) b_l_letters (endsP sp_letters Q) (startP N_l_letters sp_letters.md ds) := by
  obtain ⟨n, s, rfl, ⟨h0, h1⟩, q⟩ := h
  refine ⟨rfl, ?_⟩
  simp only [b_l_letters, N_l_letters, sp_letters, pws, pe, setAllD, entP, maskP, isNop, dsOf, lsOf, escB, noOwn, lentB, lockVars, lock, unlockF, ownAt, ownL, mutOf, isMut, startP, parP, parS, endsP, rdV.eq_1, rdV.eq_2, rdV.eq_3, rdR.eq_1, rdR.eq_2, bindD.eq_1, bindD.eq_2, binD.eq_1, binD.eq_2, binD.eq_3, binD.eq_4, binD.eq_5, binD.eq_6, binD.eq_7, binD.eq_8, binD.eq_9, binD.eq_10, cmpD.eq_1, cmpD.eq_2, cmpD.eq_3, cmpD.eq_4, cmpD.eq_5, cmpD.eq_6, cmpD.eq_7, cmpD.eq_8, cmpD.eq_9, cmpD.eq_10, eqD.eq_1, eqD.eq_2, eqD.eq_3, eqD.eq_4, ordD.eq_1, inD.eq_1, inD.eq_2, inD.eq_3, isND.eq_1, truD.eq_1, truD.eq_2, truD.eq_3, truD.eq_4, truD.eq_5, truD.eq_6, asD.eq_1, idxD.eq_1, idxD.eq_2, idxD.eq_3, slcD.eq_1, slcD.eq_2, slcD.eq_3, partD.eq_1, isiD.eq_1, biD.eq_1, biD.eq_2, biD.eq_3, biD.eq_4, biD.eq_5, biD.eq_6, biD.eq_7, biD.eq_8, biD.eq_9, biD.eq_10, mtD.eq_1, mtD.eq_2, mtD.eq_3, mtTy.eq_1, mtTy.eq_2, mtTy.eq_3, itemsD.eq_1, itemsD.eq_2, itemsD.eq_3, itemsD.eq_4, itemsD.eq_5, ownO.eq_1, ownO.eq_2, ownO.eq_3, ownO.eq_4, ownO.eq_5, mutE.eq_1, mutE.eq_2, ownV.eq_1, sixD.eq_1, mutL.eq_1, Kd.esc.eq_1, Kd.esc.eq_2, Kd.esc.eq_3, Kd.isOwn.eq_1, Kd.isOwn.eq_2, isD.eq_1, isD.eq_2, isD.eq_3, isD.eq_4, isD.eq_5, isD.eq_6, isNonD.eq_1, isNonD.eq_2, List.headD, List.tail, List.length_cons, List.length_nil, List.getElem?_cons_zero, List.getElem?_cons_succ, List.cons_append, List.nil_append, List.replicate, List.set_cons_zero, List.set_cons_succ, Nat.reduceAdd, Nat.reduceSub, Nat.zero_add, Bool.and_true, Bool.true_and, Bool.not_true, Bool.not_false, Bool.or_true, Bool.true_or, Bool.or_false, Bool.false_or, Bool.and_false, Bool.false_and, if_true, if_false, Bool.false_eq_true, true_and, and_true, false_implies, ne_eq, reduceCtorEq, not_false_eq_true, not_true_eq_false, List.map_cons, List.map_nil, implies_true, forall_const, Int.reduceLT, Int.reduceLE, Int.reducePow, Int.reduceNeg, Nat.reducePow, and_self, List.cons.injEq, PyData.int.injEq, PyData.str.injEq, PyData.bool.injEq, PyData.list.injEq, PyData.tuple.injEq, exists_eq_left', exists_eq_left, exists_and_left, exists_eq', exists_eq, exists_const, Option.some.injEq, Sl.fro.injEq, Sl.own.injEq, Sl.bor.injEq, and_assoc, decide_true, decide_false]
  refine ⟨by omega, by omega, for_inv (fun (i : Nat) => PyData.int (i : Int)) (fun l ρ => ∃ n' w' o', ρ = [some (.fro (.int n')), some (.fro (.int s)), some (.fro (.str w')), o'] ∧ w'.length + l.length = s.toNat ∧ w'.cps.toList ++ lettersOf n' l.length = lettersOf n s.toNat) ?_ ?_ _ _ ⟨_, _, _, rfl, by rw [empty_len]; simp, by simp [show (Str.ofString "").cps.toList = [] by decide +kernel]⟩⟩
  · rintro _ ⟨n', w', o', rfl, hw, e⟩
    refine ⟨fun i hi => absurd hi (by simp), ?_⟩
    simp only [pws, pe, setAllD, entP, maskP, isNop, dsOf, lsOf, escB, noOwn, lentB, lockVars, lock, unlockF, ownAt, ownL, mutOf, isMut, startP, parP, parS, endsP, rdV.eq_1, rdV.eq_2, rdV.eq_3, rdR.eq_1, rdR.eq_2, bindD.eq_1, bindD.eq_2, binD.eq_1, binD.eq_2, binD.eq_3, binD.eq_4, binD.eq_5, binD.eq_6, binD.eq_7, binD.eq_8, binD.eq_9, binD.eq_10, cmpD.eq_1, cmpD.eq_2, cmpD.eq_3, cmpD.eq_4, cmpD.eq_5, cmpD.eq_6, cmpD.eq_7, cmpD.eq_8, cmpD.eq_9, cmpD.eq_10, eqD.eq_1, eqD.eq_2, eqD.eq_3, eqD.eq_4, ordD.eq_1, inD.eq_1, inD.eq_2, inD.eq_3, isND.eq_1, truD.eq_1, truD.eq_2, truD.eq_3, truD.eq_4, truD.eq_5, truD.eq_6, asD.eq_1, idxD.eq_1, idxD.eq_2, idxD.eq_3, slcD.eq_1, slcD.eq_2, slcD.eq_3, partD.eq_1, isiD.eq_1, biD.eq_1, biD.eq_2, biD.eq_3, biD.eq_4, biD.eq_5, biD.eq_6, biD.eq_7, biD.eq_8, biD.eq_9, biD.eq_10, mtD.eq_1, mtD.eq_2, mtD.eq_3, mtTy.eq_1, mtTy.eq_2, mtTy.eq_3, itemsD.eq_1, itemsD.eq_2, itemsD.eq_3, itemsD.eq_4, itemsD.eq_5, ownO.eq_1, ownO.eq_2, ownO.eq_3, ownO.eq_4, ownO.eq_5, mutE.eq_1, mutE.eq_2, ownV.eq_1, sixD.eq_1, mutL.eq_1, Kd.esc.eq_1, Kd.esc.eq_2, Kd.esc.eq_3, Kd.isOwn.eq_1, Kd.isOwn.eq_2, isD.eq_1, isD.eq_2, isD.eq_3, isD.eq_4, isD.eq_5, isD.eq_6, isNonD.eq_1, isNonD.eq_2, List.headD, List.tail, List.length_cons, List.length_nil, List.getElem?_cons_zero, List.getElem?_cons_succ, List.cons_append, List.nil_append, List.replicate, List.set_cons_zero, List.set_cons_succ, Nat.reduceAdd, Nat.reduceSub, Nat.zero_add, Bool.and_true, Bool.true_and, Bool.not_true, Bool.not_false, Bool.or_true, Bool.true_or, Bool.or_false, Bool.false_or, Bool.and_false, Bool.false_and, if_true, if_false, Bool.false_eq_true, true_and, and_true, false_implies, ne_eq, reduceCtorEq, not_false_eq_true, not_true_eq_false, List.map_cons, List.map_nil, implies_true, forall_const, Int.reduceLT, Int.reduceLE, Int.reducePow, Int.reduceNeg, Nat.reducePow, and_self, List.cons.injEq, PyData.int.injEq, PyData.str.injEq, PyData.bool.injEq, PyData.list.injEq, PyData.tuple.injEq, exists_eq_left', exists_eq_left, exists_and_left, exists_eq', exists_eq, exists_const, Option.some.injEq, Sl.fro.injEq, Sl.own.injEq, Sl.bor.injEq, and_assoc, decide_true, decide_false]
    have : w' = lettS n s.toNat := by
      obtain ⟨cps⟩ := w'
      unfold lettS
      congr 1
      apply Array.toList_inj.mp
      simpa [lettersOf] using e
    rw [this]
    exact q
  · rintro x l _ ⟨n', w', o', rfl, hw, e⟩
    simp only [List.length_cons] at hw e
    simp only [b_l_letters_1, alpha_at, pws, pe, setAllD, entP, maskP, isNop, dsOf, lsOf, escB, noOwn, lentB, lockVars, lock, unlockF, ownAt, ownL, mutOf, isMut, startP, parP, parS, endsP, rdV.eq_1, rdV.eq_2, rdV.eq_3, rdR.eq_1, rdR.eq_2, bindD.eq_1, bindD.eq_2, binD.eq_1, binD.eq_2, binD.eq_3, binD.eq_4, binD.eq_5, binD.eq_6, binD.eq_7, binD.eq_8, binD.eq_9, binD.eq_10, cmpD.eq_1, cmpD.eq_2, cmpD.eq_3, cmpD.eq_4, cmpD.eq_5, cmpD.eq_6, cmpD.eq_7, cmpD.eq_8, cmpD.eq_9, cmpD.eq_10, eqD.eq_1, eqD.eq_2, eqD.eq_3, eqD.eq_4, ordD.eq_1, inD.eq_1, inD.eq_2, inD.eq_3, isND.eq_1, truD.eq_1, truD.eq_2, truD.eq_3, truD.eq_4, truD.eq_5, truD.eq_6, asD.eq_1, idxD.eq_1, idxD.eq_2, idxD.eq_3, slcD.eq_1, slcD.eq_2, slcD.eq_3, partD.eq_1, isiD.eq_1, biD.eq_1, biD.eq_2, biD.eq_3, biD.eq_4, biD.eq_5, biD.eq_6, biD.eq_7, biD.eq_8, biD.eq_9, biD.eq_10, mtD.eq_1, mtD.eq_2, mtD.eq_3, mtTy.eq_1, mtTy.eq_2, mtTy.eq_3, itemsD.eq_1, itemsD.eq_2, itemsD.eq_3, itemsD.eq_4, itemsD.eq_5, ownO.eq_1, ownO.eq_2, ownO.eq_3, ownO.eq_4, ownO.eq_5, mutE.eq_1, mutE.eq_2, ownV.eq_1, sixD.eq_1, mutL.eq_1, Kd.esc.eq_1, Kd.esc.eq_2, Kd.esc.eq_3, Kd.isOwn.eq_1, Kd.isOwn.eq_2, isD.eq_1, isD.eq_2, isD.eq_3, isD.eq_4, isD.eq_5, isD.eq_6, isNonD.eq_1, isNonD.eq_2, List.headD, List.tail, List.length_cons, List.length_nil, List.getElem?_cons_zero, List.getElem?_cons_succ, List.cons_append, List.nil_append, List.replicate, List.set_cons_zero, List.set_cons_succ, Nat.reduceAdd, Nat.reduceSub, Nat.zero_add, Bool.and_true, Bool.true_and, Bool.not_true, Bool.not_false, Bool.or_true, Bool.true_or, Bool.or_false, Bool.false_or, Bool.and_false, Bool.false_and, if_true, if_false, Bool.false_eq_true, true_and, and_true, false_implies, ne_eq, reduceCtorEq, not_false_eq_true, not_true_eq_false, List.map_cons, List.map_nil, implies_true, forall_const, Int.reduceLT, Int.reduceLE, Int.reducePow, Int.reduceNeg, Nat.reducePow, and_self, List.cons.injEq, PyData.int.injEq, PyData.str.injEq, PyData.bool.injEq, PyData.list.injEq, PyData.tuple.injEq, exists_eq_left', exists_eq_left, exists_and_left, exists_eq', exists_eq, exists_const, Option.some.injEq, Sl.fro.injEq, Sl.own.injEq, Sl.bor.injEq, and_assoc, decide_true, decide_false]
    have e2 : (w' ++ (⟨#[97 + (n' % 26).toNat]⟩ : Str)).length = w'.length + 1 := Str.length_append w' ⟨#[97 + (n' % 26).toNat]⟩
    refine ⟨by decide +kernel, ?_, by rw [e2]; omega, ?_⟩
    · show w'.length + 1 ≤ sizeLine
      rw [sizeLine_eq]; omega
    · rw [← e]
      show (w'.cps ++ #[97 + (n' % 26).toNat]).toList ++ _ = _
      simp [lettersOf]
def sp_l_is_word : PSp := sp_is_word
def sp_l_is_name : PSp := sp_is_name
theorem ok_l_is_word {Ψ : PEv} (ds Q E) (h : sp_l_is_word.run ds Q E) : ds.length = ps_l_is_word.length ∧ pws Ψ (fun _ => False) b_l_is_word (endsP sp_l_is_word Q) (startP N_l_is_word sp_l_is_word.md ds) := by
  obtain ⟨w, rfl, hl, q⟩ := h
  refine ⟨rfl, ?_⟩
  simp only [b_l_is_word, N_l_is_word, sp_l_is_word, sp_is_word, pws, pe, setAllD, entP, maskP, isNop, dsOf, lsOf, escB, noOwn, lentB, lockVars, lock, unlockF, ownAt, ownL, mutOf, isMut, startP, parP, parS, endsP, rdV.eq_1, rdV.eq_2, rdV.eq_3, rdR.eq_1, rdR.eq_2, bindD.eq_1, bindD.eq_2, binD.eq_1, binD.eq_2, binD.eq_3, binD.eq_4, binD.eq_5, binD.eq_6, binD.eq_7, binD.eq_8, binD.eq_9, binD.eq_10, cmpD.eq_1, cmpD.eq_2, cmpD.eq_3, cmpD.eq_4, cmpD.eq_5, cmpD.eq_6, cmpD.eq_7, cmpD.eq_8, cmpD.eq_9, cmpD.eq_10, eqD.eq_1, eqD.eq_2, eqD.eq_3, eqD.eq_4, ordD.eq_1, inD.eq_1, inD.eq_2, inD.eq_3, isND.eq_1, truD.eq_1, truD.eq_2, truD.eq_3, truD.eq_4, truD.eq_5, truD.eq_6, asD.eq_1, idxD.eq_1, idxD.eq_2, idxD.eq_3, slcD.eq_1, slcD.eq_2, slcD.eq_3, partD.eq_1, isiD.eq_1, biD.eq_1, biD.eq_2, biD.eq_3, biD.eq_4, biD.eq_5, biD.eq_6, biD.eq_7, biD.eq_8, biD.eq_9, biD.eq_10, mtD.eq_1, mtD.eq_2, mtD.eq_3, mtTy.eq_1, mtTy.eq_2, mtTy.eq_3, itemsD.eq_1, itemsD.eq_2, itemsD.eq_3, itemsD.eq_4, itemsD.eq_5, ownO.eq_1, ownO.eq_2, ownO.eq_3, ownO.eq_4, ownO.eq_5, mutE.eq_1, mutE.eq_2, ownV.eq_1, sixD.eq_1, mutL.eq_1, Kd.esc.eq_1, Kd.esc.eq_2, Kd.esc.eq_3, Kd.isOwn.eq_1, Kd.isOwn.eq_2, isD.eq_1, isD.eq_2, isD.eq_3, isD.eq_4, isD.eq_5, isD.eq_6, isNonD.eq_1, isNonD.eq_2, List.headD, List.tail, List.length_cons, List.length_nil, List.getElem?_cons_zero, List.getElem?_cons_succ, List.cons_append, List.nil_append, List.replicate, List.set_cons_zero, List.set_cons_succ, Nat.reduceAdd, Nat.reduceSub, Nat.zero_add, Bool.and_true, Bool.true_and, Bool.not_true, Bool.not_false, Bool.or_true, Bool.true_or, Bool.or_false, Bool.false_or, Bool.and_false, Bool.false_and, if_true, if_false, Bool.false_eq_true, true_and, and_true, false_implies, ne_eq, reduceCtorEq, not_false_eq_true, not_true_eq_false, List.map_cons, List.map_nil, implies_true, forall_const, Int.reduceLT, Int.reduceLE, Int.reducePow, Int.reduceNeg, Nat.reducePow, and_self, List.cons.injEq, PyData.int.injEq, PyData.str.injEq, PyData.bool.injEq, PyData.list.injEq, PyData.tuple.injEq, exists_eq_left', exists_eq_left, exists_and_left, exists_eq', exists_eq, exists_const, Option.some.injEq, Sl.fro.injEq, Sl.own.injEq, Sl.bor.injEq, and_assoc, decide_true, decide_false]
  refine ⟨hl, ?_⟩
  unfold isWord at q
  by_cases h1 : 1 ≤ w.length
  · have e1 : decide ((w.length : Int) < 1) = false := by simp; omega
    have e1' : decide (1 ≤ w.length) = true := by simpa using h1
    rw [e1] at *
    rw [e1'] at q
    simp only [Bool.false_eq_true, if_false]
    by_cases h2 : w.length ≤ 8
    · have e2 : decide ((8 : Int) < (w.length : Int)) = false := by simp; omega
      have e2' : decide (w.length ≤ 8) = true := by simpa using h2
      rw [e2'] at q
      rw [e2]
      simp only [Bool.false_eq_true, if_false]
      refine ⟨hl, ?_⟩
      refine for_inv (fun c => PyData.str ⟨#[c]⟩) (fun l ρ => ∃ o, ρ = [some (.fro (.str w)), o] ∧ l.all (fun c => decide (c ∈ letters.cps.toList)) = madeOf w letters) ?_ ?_ _ _ ⟨_, rfl, rfl⟩
      · rintro _ ⟨o, rfl, e⟩
        refine ⟨fun i hi => absurd hi (by simp), ?_⟩
        rw [← e] at q
        exact q
      · rintro c l _ ⟨o, rfl, e⟩
        rw [List.all_cons] at e
        simp only [b_l_is_word_1, pws, pe, setAllD, entP, maskP, isNop, dsOf, lsOf, escB, noOwn, lentB, lockVars, lock, unlockF, ownAt, ownL, mutOf, isMut, startP, parP, parS, endsP, rdV.eq_1, rdV.eq_2, rdV.eq_3, rdR.eq_1, rdR.eq_2, bindD.eq_1, bindD.eq_2, binD.eq_1, binD.eq_2, binD.eq_3, binD.eq_4, binD.eq_5, binD.eq_6, binD.eq_7, binD.eq_8, binD.eq_9, binD.eq_10, cmpD.eq_1, cmpD.eq_2, cmpD.eq_3, cmpD.eq_4, cmpD.eq_5, cmpD.eq_6, cmpD.eq_7, cmpD.eq_8, cmpD.eq_9, cmpD.eq_10, eqD.eq_1, eqD.eq_2, eqD.eq_3, eqD.eq_4, ordD.eq_1, inD.eq_1, inD.eq_2, inD.eq_3, isND.eq_1, truD.eq_1, truD.eq_2, truD.eq_3, truD.eq_4, truD.eq_5, truD.eq_6, asD.eq_1, idxD.eq_1, idxD.eq_2, idxD.eq_3, slcD.eq_1, slcD.eq_2, slcD.eq_3, partD.eq_1, isiD.eq_1, biD.eq_1, biD.eq_2, biD.eq_3, biD.eq_4, biD.eq_5, biD.eq_6, biD.eq_7, biD.eq_8, biD.eq_9, biD.eq_10, mtD.eq_1, mtD.eq_2, mtD.eq_3, mtTy.eq_1, mtTy.eq_2, mtTy.eq_3, itemsD.eq_1, itemsD.eq_2, itemsD.eq_3, itemsD.eq_4, itemsD.eq_5, ownO.eq_1, ownO.eq_2, ownO.eq_3, ownO.eq_4, ownO.eq_5, mutE.eq_1, mutE.eq_2, ownV.eq_1, sixD.eq_1, mutL.eq_1, Kd.esc.eq_1, Kd.esc.eq_2, Kd.esc.eq_3, Kd.isOwn.eq_1, Kd.isOwn.eq_2, isD.eq_1, isD.eq_2, isD.eq_3, isD.eq_4, isD.eq_5, isD.eq_6, isNonD.eq_1, isNonD.eq_2, List.headD, List.tail, List.length_cons, List.length_nil, List.getElem?_cons_zero, List.getElem?_cons_succ, List.cons_append, List.nil_append, List.replicate, List.set_cons_zero, List.set_cons_succ, Nat.reduceAdd, Nat.reduceSub, Nat.zero_add, Bool.and_true, Bool.true_and, Bool.not_true, Bool.not_false, Bool.or_true, Bool.true_or, Bool.or_false, Bool.false_or, Bool.and_false, Bool.false_and, if_true, if_false, Bool.false_eq_true, true_and, and_true, false_implies, ne_eq, reduceCtorEq, not_false_eq_true, not_true_eq_false, List.map_cons, List.map_nil, implies_true, forall_const, Int.reduceLT, Int.reduceLE, Int.reducePow, Int.reduceNeg, Nat.reducePow, and_self, List.cons.injEq, PyData.int.injEq, PyData.str.injEq, PyData.bool.injEq, PyData.list.injEq, PyData.tuple.injEq, exists_eq_left', exists_eq_left, exists_and_left, exists_eq', exists_eq, exists_const, Option.some.injEq, Sl.fro.injEq, Sl.own.injEq, Sl.bor.injEq, and_assoc, decide_true, decide_false]
        have e2 : inStr (Str.ofString "abcdefghijklmnopqrstuvwxyz") ⟨#[c]⟩ = decide (c ∈ letters.cps.toList) := rfl
        rw [e2]
        cases hc : decide (c ∈ letters.cps.toList) with
        | true =>
          rw [hc] at e
          exact e
        | false =>
          rw [hc] at e
          rw [← e] at q
          exact q
    · have e2 : decide ((8 : Int) < (w.length : Int)) = true := by simp; omega
      have e2' : decide (w.length ≤ 8) = false := by simpa using h2
      rw [e2'] at q
      rw [e2]
      simp only [if_true]
      exact ⟨hl, q⟩
  · have e1 : decide ((w.length : Int) < 1) = true := by simp; omega
    have e1' : decide (1 ≤ w.length) = false := by simpa using h1
    rw [e1'] at q
    rw [e1]
    simp only [if_true]
    exact q
theorem ok_l_is_name {Ψ : PEv} (h1 : Ψ.sp "_law_is_word" = sp_l_is_word) (h2 : Ψ.sp "_law_keywords" = sp_keywords) (ds Q E) (h : sp_l_is_name.run ds Q E) :
    ds.length = ps_l_is_name.length ∧ pws Ψ (fun _ => False) b_l_is_name (endsP sp_l_is_name Q) (startP N_l_is_name sp_l_is_name.md ds) := by
  obtain ⟨w, rfl, hl, q⟩ := h
  refine ⟨rfl, ?_⟩
  simp only [b_l_is_name, N_l_is_name, sp_l_is_name, sp_is_name, h1, h2, sp_l_is_word, sp_is_word, sp_keywords, pws, pe, setAllD, entP, maskP, isNop, dsOf, lsOf, escB, noOwn, lentB, lockVars, lock, unlockF, ownAt, ownL, mutOf, isMut, startP, parP, parS, endsP, rdV.eq_1, rdV.eq_2, rdV.eq_3, rdR.eq_1, rdR.eq_2, bindD.eq_1, bindD.eq_2, binD.eq_1, binD.eq_2, binD.eq_3, binD.eq_4, binD.eq_5, binD.eq_6, binD.eq_7, binD.eq_8, binD.eq_9, binD.eq_10, cmpD.eq_1, cmpD.eq_2, cmpD.eq_3, cmpD.eq_4, cmpD.eq_5, cmpD.eq_6, cmpD.eq_7, cmpD.eq_8, cmpD.eq_9, cmpD.eq_10, eqD.eq_1, eqD.eq_2, eqD.eq_3, eqD.eq_4, ordD.eq_1, inD.eq_1, inD.eq_2, inD.eq_3, isND.eq_1, truD.eq_1, truD.eq_2, truD.eq_3, truD.eq_4, truD.eq_5, truD.eq_6, asD.eq_1, idxD.eq_1, idxD.eq_2, idxD.eq_3, slcD.eq_1, slcD.eq_2, slcD.eq_3, partD.eq_1, isiD.eq_1, biD.eq_1, biD.eq_2, biD.eq_3, biD.eq_4, biD.eq_5, biD.eq_6, biD.eq_7, biD.eq_8, biD.eq_9, biD.eq_10, mtD.eq_1, mtD.eq_2, mtD.eq_3, mtTy.eq_1, mtTy.eq_2, mtTy.eq_3, itemsD.eq_1, itemsD.eq_2, itemsD.eq_3, itemsD.eq_4, itemsD.eq_5, ownO.eq_1, ownO.eq_2, ownO.eq_3, ownO.eq_4, ownO.eq_5, mutE.eq_1, mutE.eq_2, ownV.eq_1, sixD.eq_1, mutL.eq_1, Kd.esc.eq_1, Kd.esc.eq_2, Kd.esc.eq_3, Kd.isOwn.eq_1, Kd.isOwn.eq_2, isD.eq_1, isD.eq_2, isD.eq_3, isD.eq_4, isD.eq_5, isD.eq_6, isNonD.eq_1, isNonD.eq_2, List.headD, List.tail, List.length_cons, List.length_nil, List.getElem?_cons_zero, List.getElem?_cons_succ, List.cons_append, List.nil_append, List.replicate, List.set_cons_zero, List.set_cons_succ, Nat.reduceAdd, Nat.reduceSub, Nat.zero_add, Bool.and_true, Bool.true_and, Bool.not_true, Bool.not_false, Bool.or_true, Bool.true_or, Bool.or_false, Bool.false_or, Bool.and_false, Bool.false_and, if_true, if_false, Bool.false_eq_true, true_and, and_true, false_implies, ne_eq, reduceCtorEq, not_false_eq_true, not_true_eq_false, List.map_cons, List.map_nil, implies_true, forall_const, Int.reduceLT, Int.reduceLE, Int.reducePow, Int.reduceNeg, Nat.reducePow, and_self, List.cons.injEq, PyData.int.injEq, PyData.str.injEq, PyData.bool.injEq, PyData.list.injEq, PyData.tuple.injEq, exists_eq_left', exists_eq_left, exists_and_left, exists_eq', exists_eq, exists_const, Option.some.injEq, Sl.fro.injEq, Sl.own.injEq, Sl.bor.injEq, and_assoc, decide_true, decide_false]
  refine ⟨hl, ?_⟩
  unfold isName at q
  cases hw : isWord w with
  | true =>
    rw [hw] at q
    exact ⟨.inl ⟨rfl, keys_flat⟩, q⟩
  | false =>
    rw [hw] at q
    exact q

end L2.L3.Lib

set_option Elab.async false
set_option linter.all false
set_option maxRecDepth 100000
set_option maxHeartbeats 4000000
namespace L2.L3.Lib
open PySem PySem.Spec PyProof.Rows L2 L2.L3
theorem foldl_app (xs : List (Array Nat)) : ∀ (acc : Array Nat), (xs.foldl (· ++ ·) acc).toList = acc.toList ++ (xs.map Array.toList).flatten := by
  induction xs with
  | nil => intro acc; simp
  | cons a xs ih => intro acc; rw [List.foldl_cons, ih]; simp
theorem repS_codes (x : Str) (k : Int) : (repS x k).cps.toList = (List.replicate k.toNat x.cps.toList).flatten := by
  unfold repS Txt.mul
  split
  · rename_i h
    have : k.toNat = 0 := by omega
    rw [this]
    rfl
  · rename_i h
    split
    · rename_i h2
      rw [Bool.or_eq_true] at h2
      rcases h2 with h2 | h2
      · have : k = 1 := by simpa using h2
        subst this
        simp
      · have h3 : x.length = 0 := by simpa using h2
        have : x.cps.toList = [] := by
          have : x.cps.toList.length = 0 := by rw [Array.length_toList]; exact h3
          exact List.length_eq_zero_iff.mp this
        rw [this]
        simp
    · show ((List.replicate k.toNat x.cps).foldl (· ++ ·) #[]).toList = _
      rw [foldl_app]
      simp
theorem repS_len (x : Str) (k : Int) : (repS x k).length = k.toNat * x.length := by
  have h := congrArg List.length (repS_codes x k)
  rw [Array.length_toList, len_rep, Array.length_toList] at h
  exact h
def figures : Str := "0123456789"
/-- one to nine figures, the first no 0 but in 0 itself -/
def isNum (w : Str) : Bool := decide (1 ≤ w.length) && (decide (w.length ≤ 9) && (madeOf w figures && (w.cps.toList.head? != some 48 || decide (w.length = 1))))
def numVal (w : Str) : Int := ((NumText.digitsVal w.cps.toList : Nat) : Int)
def numIn (w : Str) : D := if isNum w = true then .int (numVal w) else .none
def sp_number_in : PSp where
  md := []
  nw := false
  run := fun ds Q _ => ∃ w : Str, ds = [.str w] ∧ w.length ≤ sizeLine ∧ Q (numIn w)
  mono := fun h _ ⟨w, e, l, q⟩ => ⟨w, e, l, h _ q⟩
def sp_l_number : PSp where
  md := []
  nw := false
  run := fun ds Q _ => ∃ w : Str, ds = [.str w] ∧ w.length ≤ sizeLine ∧ Q (.int (if isNum w = true then numVal w else -1))
  mono := fun h _ ⟨w, e, l, q⟩ => ⟨w, e, l, h _ q⟩
theorem fig_mem (c : Nat) : decide (c ∈ figures.cps.toList) = (decide (48 ≤ c) && decide (c ≤ 57)) := by
  have e : figures.cps.toList = [48, 49, 50, 51, 52, 53, 54, 55, 56, 57] := by decide +kernel
  rw [e]
  by_cases h1 : 48 ≤ c
  · by_cases h2 : c ≤ 57
    · have : c = 48 ∨ c = 49 ∨ c = 50 ∨ c = 51 ∨ c = 52 ∨ c = 53 ∨ c = 54 ∨ c = 55 ∨ c = 56 ∨ c = 57 := by omega
      rcases this with rfl | rfl | rfl | rfl | rfl | rfl | rfl | rfl | rfl | rfl <;> rfl
    · have : ¬ c ∈ [48, 49, 50, 51, 52, 53, 54, 55, 56, 57] := by simp; omega
      simp [this, h2]
  · have : ¬ c ∈ [48, 49, 50, 51, 52, 53, 54, 55, 56, 57] := by simp; omega
    simp [this, h1]
theorem all_digits {w : Str} (h : madeOf w figures = true) : NumText.AllDigits w.cps.toList := by
  intro c hc
  have := List.all_eq_true.mp h c hc
  rw [fig_mem, Bool.and_eq_true] at this
  exact ⟨of_decide_eq_true this.1, of_decide_eq_true this.2⟩
theorem zero_str : Str.ofString "0" = ⟨#[48]⟩ := by decide +kernel
theorem str_ext {a b : Str} (h : a.cps.toList = b.cps.toList) : a = b := by
  obtain ⟨a⟩ := a
  obtain ⟨b⟩ := b
  exact congrArg Str.mk (Array.toList_inj.mp h)
theorem ok_number_in {Ψ : PEv} (h1 : Ψ.sp "is_made_of" = sp_is_made_of) (v1 : Ψ.va "FIGURES" = some (.str figures)) (v2 : Ψ.va "MOST_FIGURES" = some (.int 9)) (ds Q E) (h : sp_number_in.run ds Q E) :
    ds.length = ps_number_in.length ∧ pws Ψ (fun _ => False) b_number_in (endsP sp_number_in Q) (startP N_number_in sp_number_in.md ds) := by
  obtain ⟨w, rfl, hl, q⟩ := h
  refine ⟨rfl, ?_⟩
  simp only [b_number_in, N_number_in, sp_number_in, h1, v1, v2, sp_is_made_of, pws, pe, setAllD, entP, maskP, isNop, dsOf, lsOf, escB, noOwn, lentB, lockVars, lock, unlockF, ownAt, ownL, mutOf, isMut, startP, parP, parS, endsP, rdV.eq_1, rdV.eq_2, rdV.eq_3, rdR.eq_1, rdR.eq_2, bindD.eq_1, bindD.eq_2, binD.eq_1, binD.eq_2, binD.eq_3, binD.eq_4, binD.eq_5, binD.eq_6, binD.eq_7, binD.eq_8, binD.eq_9, binD.eq_10, cmpD.eq_1, cmpD.eq_2, cmpD.eq_3, cmpD.eq_4, cmpD.eq_5, cmpD.eq_6, cmpD.eq_7, cmpD.eq_8, cmpD.eq_9, cmpD.eq_10, eqD.eq_1, eqD.eq_2, eqD.eq_3, eqD.eq_4, ordD.eq_1, inD.eq_1, inD.eq_2, inD.eq_3, isND.eq_1, truD.eq_1, truD.eq_2, truD.eq_3, truD.eq_4, truD.eq_5, truD.eq_6, asD.eq_1, idxD.eq_1, idxD.eq_2, idxD.eq_3, slcD.eq_1, slcD.eq_2, slcD.eq_3, partD.eq_1, isiD.eq_1, biD.eq_1, biD.eq_2, biD.eq_3, biD.eq_4, biD.eq_5, biD.eq_6, biD.eq_7, biD.eq_8, biD.eq_9, biD.eq_10, mtD.eq_1, mtD.eq_2, mtD.eq_3, mtTy.eq_1, mtTy.eq_2, mtTy.eq_3, itemsD.eq_1, itemsD.eq_2, itemsD.eq_3, itemsD.eq_4, itemsD.eq_5, ownO.eq_1, ownO.eq_2, ownO.eq_3, ownO.eq_4, ownO.eq_5, mutE.eq_1, mutE.eq_2, ownV.eq_1, sixD.eq_1, mutL.eq_1, Kd.esc.eq_1, Kd.esc.eq_2, Kd.esc.eq_3, Kd.isOwn.eq_1, Kd.isOwn.eq_2, isD.eq_1, isD.eq_2, isD.eq_3, isD.eq_4, isD.eq_5, isD.eq_6, isNonD.eq_1, isNonD.eq_2, List.headD, List.tail, List.length_cons, List.length_nil, List.getElem?_cons_zero, List.getElem?_cons_succ, List.cons_append, List.nil_append, List.replicate, List.set_cons_zero, List.set_cons_succ, Nat.reduceAdd, Nat.reduceSub, Nat.zero_add, Bool.and_true, Bool.true_and, Bool.not_true, Bool.not_false, Bool.or_true, Bool.true_or, Bool.or_false, Bool.false_or, Bool.and_false, Bool.false_and, if_true, if_false, Bool.false_eq_true, true_and, and_true, false_implies, ne_eq, reduceCtorEq, not_false_eq_true, not_true_eq_false, List.map_cons, List.map_nil, implies_true, forall_const, Int.reduceLT, Int.reduceLE, Int.reducePow, Int.reduceNeg, Nat.reducePow, and_self, List.cons.injEq, PyData.int.injEq, PyData.str.injEq, PyData.bool.injEq, PyData.list.injEq, PyData.tuple.injEq, exists_eq_left', exists_eq_left, ↓reduceIte, eq_self, exists_and_left, exists_eq', exists_eq, exists_const, Option.some.injEq, Sl.fro.injEq, Sl.own.injEq, Sl.bor.injEq, and_assoc, decide_true, decide_false]
  refine ⟨hl, ?_⟩
  unfold numIn isNum at q
  by_cases c1 : 1 ≤ w.length
  · have e1 : decide ((1 : Int) ≤ (w.length : Int)) = true := by simp; omega
    rw [decide_eq_true c1] at q
    simp only [e1, Bool.not_true, Bool.false_eq_true, if_false, if_true]
    by_cases c2 : w.length ≤ 9
    · have e2 : decide ((w.length : Int) ≤ 9) = true := by simp; omega
      rw [decide_eq_true c2] at q
      simp only [e2, Bool.not_true, Bool.false_eq_true, if_false]
      refine ⟨hl, ?_⟩
      cases hm : madeOf w figures with
      | false =>
        rw [hm] at q
        exact q
      | true =>
        rw [hm] at q
        simp only [Bool.not_true, Bool.false_eq_true, if_false]
        refine ⟨hl, ?_⟩
        have hlen : w.cps.toList.length = w.length := Array.length_toList
        cases hc : w.cps.toList with
        | nil => rw [hc] at hlen; simp at hlen; omega
        | cons c cs =>
          refine ⟨c, atI_nat (j := 0) rfl, ?_⟩
          rw [hc] at q hlen
          rw [zero_str]
          have ec : decide ((⟨#[c]⟩ : Str) = ⟨#[48]⟩) = decide (c = 48) := by
            by_cases z : c = 48
            · subst z; simp
            · have : ¬ (⟨#[c]⟩ : Str) = ⟨#[48]⟩ := fun e => z (by injection e with e; injection e with e; injection e)
              rw [decide_eq_false this, decide_eq_false z]
          rw [ec]
          have ew : decide (w = ⟨#[48]⟩) = (decide (c = 48) && decide (w.length = 1)) := by
            by_cases z : w = ⟨#[48]⟩
            · rw [decide_eq_true z]
              rw [z] at hc
              injection hc with hc1 hc2
              subst hc1
              rw [z]
              rfl
            · rw [decide_eq_false z]
              symm
              rw [Bool.and_eq_false_iff]
              by_cases y : c = 48
              · refine .inr (decide_eq_false fun y2 => z ?_)
                subst y
                apply str_ext
                rw [hc]
                have : cs = [] := by
                  cases cs with
                  | nil => rfl
                  | cons _ _ => simp at hlen; omega
                rw [this]
              · exact .inl (decide_eq_false y)
          rw [ew]
          have fin : (w.length ≤ 640 ∧ ∃ n, intText? w = some n ∧ Q (.int n)) ↔ Q (.int (numVal w)) := by
            have e : intText? w = some (numVal w) := PySem.intText_digits (all_digits hm) (by rw [hc]; simp) (by omega)
            constructor
            · rintro ⟨_, n, e1, q⟩
              rw [e] at e1
              cases e1
              exact q
            · intro q
              exact ⟨by omega, _, e, q⟩
          by_cases z : c = 48
          · subst z
            by_cases y : w.length = 1
            · rw [decide_eq_true y] at q ⊢
              simp only [decide_true, Bool.and_self, Bool.not_true, Bool.false_eq_true, if_false, if_true]
              refine fin.mpr ?_
              simpa using q
            · rw [decide_eq_false y] at q ⊢
              simp only [decide_true, Bool.and_false, Bool.not_false, if_true]
              simpa using q
          · rw [decide_eq_false z]
            simp only [Bool.false_eq_true, if_false]
            refine fin.mpr ?_
            have : ((some c : Option Nat) != some 48) = true := by simp [z]
            have q2 : (if (true && (true && (true && (((some c : Option Nat) != some 48) || decide (w.length = 1))))) = true then PyData.int (numVal w) else PyData.none) = PyData.int (numVal w) := by rw [this]; rfl
            have q3 : Q (if (true && (true && (true && (((some c : Option Nat) != some 48) || decide (w.length = 1))))) = true then PyData.int (numVal w) else PyData.none) := q
            rw [q2] at q3
            exact q3
    · have e2 : decide ((w.length : Int) ≤ 9) = false := by simp; omega
      rw [decide_eq_false c2] at q
      simp only [e2, Bool.not_false, if_true]
      exact q
  · have e1 : decide ((1 : Int) ≤ (w.length : Int)) = false := by simp; omega
    rw [decide_eq_false c1] at q
    simp only [e1, Bool.not_false, if_true]
    exact q
theorem find_fig {c : Nat} (h : decide (c ∈ figures.cps.toList) = true) : Txt.find (Str.ofString "0123456789") ⟨#[c]⟩ = ((c - 48 : Nat) : Int) := by
  rw [fig_mem, Bool.and_eq_true] at h
  have h1 := of_decide_eq_true h.1
  have h2 := of_decide_eq_true h.2
  have key : ∀ i : Fin 10, Txt.find (Str.ofString "0123456789") ⟨#[48 + i.val]⟩ = ((i.val : Nat) : Int) := by decide +kernel
  have := key ⟨c - 48, by omega⟩
  have e : 48 + (c - 48) = c := by omega
  simp only [e] at this
  exact this
theorem ok_l_number {Ψ : PEv} (ds Q E) (h : sp_l_number.run ds Q E) : ds.length = ps_l_number.length ∧ pws Ψ (fun _ => False) b_l_number (endsP sp_l_number Q) (startP N_l_number sp_l_number.md ds) := by
  obtain ⟨w, rfl, hl, q⟩ := h
  refine ⟨rfl, ?_⟩
  simp only [b_l_number, N_l_number, sp_l_number, pws, pe, setAllD, entP, maskP, isNop, dsOf, lsOf, escB, noOwn, lentB, lockVars, lock, unlockF, ownAt, ownL, mutOf, isMut, startP, parP, parS, endsP, rdV.eq_1, rdV.eq_2, rdV.eq_3, rdR.eq_1, rdR.eq_2, bindD.eq_1, bindD.eq_2, binD.eq_1, binD.eq_2, binD.eq_3, binD.eq_4, binD.eq_5, binD.eq_6, binD.eq_7, binD.eq_8, binD.eq_9, binD.eq_10, cmpD.eq_1, cmpD.eq_2, cmpD.eq_3, cmpD.eq_4, cmpD.eq_5, cmpD.eq_6, cmpD.eq_7, cmpD.eq_8, cmpD.eq_9, cmpD.eq_10, eqD.eq_1, eqD.eq_2, eqD.eq_3, eqD.eq_4, ordD.eq_1, inD.eq_1, inD.eq_2, inD.eq_3, isND.eq_1, truD.eq_1, truD.eq_2, truD.eq_3, truD.eq_4, truD.eq_5, truD.eq_6, asD.eq_1, idxD.eq_1, idxD.eq_2, idxD.eq_3, slcD.eq_1, slcD.eq_2, slcD.eq_3, partD.eq_1, isiD.eq_1, biD.eq_1, biD.eq_2, biD.eq_3, biD.eq_4, biD.eq_5, biD.eq_6, biD.eq_7, biD.eq_8, biD.eq_9, biD.eq_10, mtD.eq_1, mtD.eq_2, mtD.eq_3, mtTy.eq_1, mtTy.eq_2, mtTy.eq_3, itemsD.eq_1, itemsD.eq_2, itemsD.eq_3, itemsD.eq_4, itemsD.eq_5, ownO.eq_1, ownO.eq_2, ownO.eq_3, ownO.eq_4, ownO.eq_5, mutE.eq_1, mutE.eq_2, ownV.eq_1, sixD.eq_1, mutL.eq_1, Kd.esc.eq_1, Kd.esc.eq_2, Kd.esc.eq_3, Kd.isOwn.eq_1, Kd.isOwn.eq_2, isD.eq_1, isD.eq_2, isD.eq_3, isD.eq_4, isD.eq_5, isD.eq_6, isNonD.eq_1, isNonD.eq_2, List.headD, List.tail, List.length_cons, List.length_nil, List.getElem?_cons_zero, List.getElem?_cons_succ, List.cons_append, List.nil_append, List.replicate, List.set_cons_zero, List.set_cons_succ, Nat.reduceAdd, Nat.reduceSub, Nat.zero_add, Bool.and_true, Bool.true_and, Bool.not_true, Bool.not_false, Bool.or_true, Bool.true_or, Bool.or_false, Bool.false_or, Bool.and_false, Bool.false_and, if_true, if_false, Bool.false_eq_true, true_and, and_true, false_implies, ne_eq, reduceCtorEq, not_false_eq_true, not_true_eq_false, List.map_cons, List.map_nil, implies_true, forall_const, Int.reduceLT, Int.reduceLE, Int.reducePow, Int.reduceNeg, Nat.reducePow, and_self, List.cons.injEq, PyData.int.injEq, PyData.str.injEq, PyData.bool.injEq, PyData.list.injEq, PyData.tuple.injEq, exists_eq_left', exists_eq_left, ↓reduceIte, eq_self, exists_and_left, exists_eq', exists_eq, exists_const, Option.some.injEq, Sl.fro.injEq, Sl.own.injEq, Sl.bor.injEq, and_assoc, decide_true, decide_false]
  refine ⟨hl, ?_⟩
  unfold isNum at q
  by_cases c1 : 1 ≤ w.length
  · have e1 : decide ((w.length : Int) < 1) = false := by simp; omega
    rw [decide_eq_true c1] at q
    simp only [e1, Bool.false_eq_true, if_false]
    refine ⟨hl, ?_⟩
    by_cases c2 : w.length ≤ 9
    · have e2 : decide ((9 : Int) < (w.length : Int)) = false := by simp; omega
      rw [decide_eq_true c2] at q
      simp only [e2, Bool.false_eq_true, if_false]
      refine ⟨hl, ?_⟩
      have hlen : w.cps.toList.length = w.length := Array.length_toList
      -- the loop
      have loop : (w.cps.toList.head? != some 48 || decide (w.length = 1)) = true → forD (pws Ψ (fun _ => False) b_l_number_1) (.nm 2) ⟨unlock [] [some (.fro (.str w)), some (.fro (.int 0)), none] fun ρ' => rdR ρ'[1]? fun d _ => Q d, fun d _ => Q d, fun _ => False, fun _ => False⟩ (w.cps.toList.map fun c => .str ⟨#[c]⟩) [some (.fro (.str w)), some (.fro (.int 0)), none] := by
        intro hz
        rw [hz] at q
        refine for_inv (fun c => PyData.str ⟨#[c]⟩) (fun l ρ => ∃ (v : Nat) (o : Option Sl), ρ = [some (.fro (.str w)), some (.fro (.int (v : Int))), o] ∧ l.all (fun c => decide (c ∈ figures.cps.toList)) = madeOf w figures ∧ l.foldl (fun acc c => acc * 10 + (c - 48)) v = NumText.digitsVal w.cps.toList) ?_ ?_ _ _ ⟨0, none, rfl, rfl, rfl⟩
        · rintro _ ⟨v, o, rfl, e, hv⟩
          refine ⟨fun i hi => absurd hi (by simp), ?_⟩
          simp only [pws, pe, setAllD, entP, maskP, isNop, dsOf, lsOf, escB, noOwn, lentB, lockVars, lock, unlockF, ownAt, ownL, mutOf, isMut, startP, parP, parS, endsP, rdV.eq_1, rdV.eq_2, rdV.eq_3, rdR.eq_1, rdR.eq_2, bindD.eq_1, bindD.eq_2, binD.eq_1, binD.eq_2, binD.eq_3, binD.eq_4, binD.eq_5, binD.eq_6, binD.eq_7, binD.eq_8, binD.eq_9, binD.eq_10, cmpD.eq_1, cmpD.eq_2, cmpD.eq_3, cmpD.eq_4, cmpD.eq_5, cmpD.eq_6, cmpD.eq_7, cmpD.eq_8, cmpD.eq_9, cmpD.eq_10, eqD.eq_1, eqD.eq_2, eqD.eq_3, eqD.eq_4, ordD.eq_1, inD.eq_1, inD.eq_2, inD.eq_3, isND.eq_1, truD.eq_1, truD.eq_2, truD.eq_3, truD.eq_4, truD.eq_5, truD.eq_6, asD.eq_1, idxD.eq_1, idxD.eq_2, idxD.eq_3, slcD.eq_1, slcD.eq_2, slcD.eq_3, partD.eq_1, isiD.eq_1, biD.eq_1, biD.eq_2, biD.eq_3, biD.eq_4, biD.eq_5, biD.eq_6, biD.eq_7, biD.eq_8, biD.eq_9, biD.eq_10, mtD.eq_1, mtD.eq_2, mtD.eq_3, mtTy.eq_1, mtTy.eq_2, mtTy.eq_3, itemsD.eq_1, itemsD.eq_2, itemsD.eq_3, itemsD.eq_4, itemsD.eq_5, ownO.eq_1, ownO.eq_2, ownO.eq_3, ownO.eq_4, ownO.eq_5, mutE.eq_1, mutE.eq_2, ownV.eq_1, sixD.eq_1, mutL.eq_1, Kd.esc.eq_1, Kd.esc.eq_2, Kd.esc.eq_3, Kd.isOwn.eq_1, Kd.isOwn.eq_2, isD.eq_1, isD.eq_2, isD.eq_3, isD.eq_4, isD.eq_5, isD.eq_6, isNonD.eq_1, isNonD.eq_2, List.headD, List.tail, List.length_cons, List.length_nil, List.getElem?_cons_zero, List.getElem?_cons_succ, List.cons_append, List.nil_append, List.replicate, List.set_cons_zero, List.set_cons_succ, Nat.reduceAdd, Nat.reduceSub, Nat.zero_add, Bool.and_true, Bool.true_and, Bool.not_true, Bool.not_false, Bool.or_true, Bool.true_or, Bool.or_false, Bool.false_or, Bool.and_false, Bool.false_and, if_true, if_false, Bool.false_eq_true, true_and, and_true, false_implies, ne_eq, reduceCtorEq, not_false_eq_true, not_true_eq_false, List.map_cons, List.map_nil, implies_true, forall_const, Int.reduceLT, Int.reduceLE, Int.reducePow, Int.reduceNeg, Nat.reducePow, and_self, List.cons.injEq, PyData.int.injEq, PyData.str.injEq, PyData.bool.injEq, PyData.list.injEq, PyData.tuple.injEq, exists_eq_left', exists_eq_left, ↓reduceIte, eq_self, exists_and_left, exists_eq', exists_eq, exists_const, Option.some.injEq, Sl.fro.injEq, Sl.own.injEq, Sl.bor.injEq, and_assoc, decide_true, decide_false]
          rw [← e] at q
          have hv : v = NumText.digitsVal w.cps.toList := hv
          have e2 : (v : Int) = numVal w := by rw [hv]; rfl
          rw [e2]
          exact q
        · rintro c l _ ⟨v, o, rfl, e, hv⟩
          rw [List.all_cons] at e
          rw [List.foldl_cons] at hv
          simp only [b_l_number_1, pws, pe, setAllD, entP, maskP, isNop, dsOf, lsOf, escB, noOwn, lentB, lockVars, lock, unlockF, ownAt, ownL, mutOf, isMut, startP, parP, parS, endsP, rdV.eq_1, rdV.eq_2, rdV.eq_3, rdR.eq_1, rdR.eq_2, bindD.eq_1, bindD.eq_2, binD.eq_1, binD.eq_2, binD.eq_3, binD.eq_4, binD.eq_5, binD.eq_6, binD.eq_7, binD.eq_8, binD.eq_9, binD.eq_10, cmpD.eq_1, cmpD.eq_2, cmpD.eq_3, cmpD.eq_4, cmpD.eq_5, cmpD.eq_6, cmpD.eq_7, cmpD.eq_8, cmpD.eq_9, cmpD.eq_10, eqD.eq_1, eqD.eq_2, eqD.eq_3, eqD.eq_4, ordD.eq_1, inD.eq_1, inD.eq_2, inD.eq_3, isND.eq_1, truD.eq_1, truD.eq_2, truD.eq_3, truD.eq_4, truD.eq_5, truD.eq_6, asD.eq_1, idxD.eq_1, idxD.eq_2, idxD.eq_3, slcD.eq_1, slcD.eq_2, slcD.eq_3, partD.eq_1, isiD.eq_1, biD.eq_1, biD.eq_2, biD.eq_3, biD.eq_4, biD.eq_5, biD.eq_6, biD.eq_7, biD.eq_8, biD.eq_9, biD.eq_10, mtD.eq_1, mtD.eq_2, mtD.eq_3, mtTy.eq_1, mtTy.eq_2, mtTy.eq_3, itemsD.eq_1, itemsD.eq_2, itemsD.eq_3, itemsD.eq_4, itemsD.eq_5, ownO.eq_1, ownO.eq_2, ownO.eq_3, ownO.eq_4, ownO.eq_5, mutE.eq_1, mutE.eq_2, ownV.eq_1, sixD.eq_1, mutL.eq_1, Kd.esc.eq_1, Kd.esc.eq_2, Kd.esc.eq_3, Kd.isOwn.eq_1, Kd.isOwn.eq_2, isD.eq_1, isD.eq_2, isD.eq_3, isD.eq_4, isD.eq_5, isD.eq_6, isNonD.eq_1, isNonD.eq_2, List.headD, List.tail, List.length_cons, List.length_nil, List.getElem?_cons_zero, List.getElem?_cons_succ, List.cons_append, List.nil_append, List.replicate, List.set_cons_zero, List.set_cons_succ, Nat.reduceAdd, Nat.reduceSub, Nat.zero_add, Bool.and_true, Bool.true_and, Bool.not_true, Bool.not_false, Bool.or_true, Bool.true_or, Bool.or_false, Bool.false_or, Bool.and_false, Bool.false_and, if_true, if_false, Bool.false_eq_true, true_and, and_true, false_implies, ne_eq, reduceCtorEq, not_false_eq_true, not_true_eq_false, List.map_cons, List.map_nil, implies_true, forall_const, Int.reduceLT, Int.reduceLE, Int.reducePow, Int.reduceNeg, Nat.reducePow, and_self, List.cons.injEq, PyData.int.injEq, PyData.str.injEq, PyData.bool.injEq, PyData.list.injEq, PyData.tuple.injEq, exists_eq_left', exists_eq_left, ↓reduceIte, eq_self, exists_and_left, exists_eq', exists_eq, exists_const, Option.some.injEq, Sl.fro.injEq, Sl.own.injEq, Sl.bor.injEq, and_assoc, decide_true, decide_false]
          have e2 : inStr (Str.ofString "0123456789") ⟨#[c]⟩ = decide (c ∈ figures.cps.toList) := rfl
          rw [e2]
          cases hc : decide (c ∈ figures.cps.toList) with
          | false =>
            rw [hc] at e
            rw [← e] at q
            exact q
          | true =>
            rw [hc] at e
            simp only [Bool.not_true, Bool.false_eq_true, if_false]
            refine ⟨CMul.ok (.inr ⟨by decide, by decide⟩), v * 10 + (c - 48), ?_, e, hv⟩
            rw [find_fig hc]
            omega
      by_cases c3 : 1 < w.length
      · have e3 : decide ((1 : Int) < (w.length : Int)) = true := by simp; omega
        simp only [e3, if_true]
        refine ⟨hl, ?_⟩
        cases hc : w.cps.toList with
        | nil => rw [hc] at hlen; simp at hlen; omega
        | cons c cs =>
          refine ⟨c, atI_nat (j := 0) rfl, ?_⟩
          rw [zero_str]
          have ec : decide ((⟨#[c]⟩ : Str) = ⟨#[48]⟩) = decide (c = 48) := by
            by_cases z : c = 48
            · subst z; simp
            · have : ¬ (⟨#[c]⟩ : Str) = ⟨#[48]⟩ := fun e => z (by injection e with e; injection e with e; injection e)
              rw [decide_eq_false this, decide_eq_false z]
          rw [ec]
          by_cases z : c = 48
          · subst z
            simp only [decide_true, if_true]
            rw [hc, decide_eq_false (show ¬ w.length = 1 by omega)] at q
            simpa using q
          · rw [decide_eq_false z]
            simp only [Bool.false_eq_true, if_false]
            rw [hc] at loop
            have : ((some c : Option Nat) != some 48) = true := by simp [z]
            exact loop (by simp [z])
      · have e3 : decide ((1 : Int) < (w.length : Int)) = false := by simp; omega
        simp only [e3, Bool.false_eq_true, if_false]
        exact loop (by rw [decide_eq_true (show w.length = 1 by omega)]; simp)
    · have e2 : decide ((9 : Int) < (w.length : Int)) = true := by simp; omega
      rw [decide_eq_false c2] at q
      simp only [e2, if_true]
      exact q
  · have e1 : decide ((w.length : Int) < 1) = true := by simp; omega
    rw [decide_eq_false c1] at q
    simp only [e1, if_true]
    exact q
end L2.L3.Lib

set_option Elab.async false
set_option linter.all false
set_option maxRecDepth 100000
set_option maxHeartbeats 4000000
namespace L2.L3.K02
open PySem PySem.Spec PyProof.Rows L2 L2.L3 L2.L3.Lib

def top (i : Nat) : Stmt := PySem.Challenge.pw_quoteweave_k02_numbers.main.body.getD i (.Pass ⟨0, 0, 0, 0⟩)
theorem cb_is_made_of : defB n_is_made_of b_is_made_of N_is_made_of ps_is_made_of (top 3) = true := by kernel_rfl
theorem cb_number_in : defB n_number_in b_number_in N_number_in ps_number_in (top 4) = true := by kernel_rfl
theorem cb_l_mixed : defB n_l_mixed b_l_mixed N_l_mixed ps_l_mixed (top 6) = true := by kernel_rfl
theorem cb_l_sign_by : defB n_l_sign_by b_l_sign_by N_l_sign_by ps_l_sign_by (top 7) = true := by kernel_rfl
theorem cb_l_number : defB n_l_number b_l_number N_l_number ps_l_number (top 8) = true := by kernel_rfl
def N_l_figures_by : List Str := ["_law_n", "_law_way"]
def ps_l_figures_by : List Str := ["_law_n"]
def n_l_figures_by : Need := ⟨[], [], ["str"]⟩
def b_l_figures_by : PT :=
    (.seq (.set 1 (.bin .Mod (.var 0) (.int 4)))
    (.seq (.ife (.cmp .Eq (.var 1) (.int 0)) (.seq (.ret (.bi .str (.acons (.bin .Add (.bin .Sub (.bin .Pow (.int 10) (.int 9)) (.int 2)) (.bin .Mod (.bin .FloorDiv (.var 0) (.int 4)) (.int 4))) .anil)))
    .nil) .nil)
    (.seq (.ife (.and (.cmp .Eq (.var 1) (.int 1)) (.cmp .Eq (.bin .Mod (.bin .FloorDiv (.var 0) (.int 4000)) (.int 3)) (.int 0))) (.seq (.ret (.bi .str (.acons (.bin .Mod (.bin .FloorDiv (.var 0) (.int 4)) (.int 3)) .anil)))
    .nil) .nil)
    (.seq (.ife (.cmp .Eq (.var 1) (.int 1)) (.seq (.ret (.bi .str (.acons (.bin .Mod (.bin .FloorDiv (.var 0) (.int 4)) (.int 1000)) .anil)))
    .nil) .nil)
    (.seq (.ret (.slc (.bi .str (.acons (.bin .Mod (.bin .FloorDiv (.var 0) (.int 128)) (.bin .Pow (.int 10) (.int 10))) .anil)) .nop (.bin .Add (.int 1) (.bin .Mod (.bin .FloorDiv (.var 0) (.int 4)) (.int 10)))))
    .nil)))))
theorem cb_l_figures_by : defB n_l_figures_by b_l_figures_by N_l_figures_by ps_l_figures_by (top 9) = true := by kernel_rfl
def N_l_text_by : List Str := ["_law_n", "_law_m", "_law_word", "_law_way", "_law_at", "_law_sign"]
def ps_l_text_by : List Str := ["_law_n", "_law_m"]
def n_l_text_by : Need := ⟨["_law_figures_by", "_law_sign_by"], [], ["len"]⟩
def b_l_text_by_r1 : PT :=
    (.seq (.ife (.cmp .Eq (.var 3) (.int 1)) (.seq (.ret (.bin .Add (.var 2) (.bin .Mult (.str "0") (.bin .Mod (.bin .FloorDiv (.var 1) (.int 8)) (.int 21)))))
    .nil) .nil)
    (.seq (.ife (.cmp .Eq (.var 3) (.int 2)) (.seq (.ret (.bin .Add (.bin .Mult (.str "0") (.bin .Mod (.bin .FloorDiv (.var 1) (.int 8)) (.int 4))) (.var 2)))
    .nil) .nil)
    (.seq (.ife (.cmp .Eq (.var 3) (.int 3)) (.seq (.ret (.bin .Add (.bin .Add (.slc (.var 2) .nop (.var 4)) (.var 5)) (.slc (.var 2) (.var 4) .nop)))
    .nil) .nil)
    (.seq (.ife (.cmp .Eq (.var 3) (.int 4)) (.seq (.ret (.bin .Add (.bin .Add (.slc (.var 2) .nop (.var 4)) (.var 5)) (.slc (.var 2) (.bin .Add (.var 4) (.int 1)) .nop)))
    .nil) .nil)
    (.seq (.ife (.cmp .Eq (.var 3) (.int 5)) (.seq (.ret (.bin .Add (.slc (.var 2) .nop (.var 4)) (.slc (.var 2) (.bin .Add (.var 4) (.int 1)) .nop)))
    .nil) .nil)
    (.seq (.ret (.var 2))
    .nil))))))
def b_l_text_by : PT :=
    (.seq (.set 2 (.call "_law_figures_by" (.acons (.var 0) .anil)))
    (.seq (.set 3 (.bin .Mod (.var 1) (.int 8)))
    (.seq (.set 4 (.bin .Mod (.bin .Mod (.bin .FloorDiv (.var 1) (.int 8)) (.int 32)) (.bin .Add (.bi .len (.acons (.var 2) .anil)) (.int 1))))
    (.seq (.set 5 (.call "_law_sign_by" (.acons (.bin .FloorDiv (.var 1) (.int 512)) .anil)))
    (.seq (.ife (.cmp .Eq (.bin .Mod (.bin .FloorDiv (.var 1) (.int 256)) (.int 2)) (.int 0)) (.seq (.set 5 (.idx (.str "+-_ .") (.bin .Mod (.bin .FloorDiv (.var 1) (.int 512)) (.int 5))))
    .nil) .nil)
    b_l_text_by_r1)))))
theorem cb_l_text_by : defB n_l_text_by b_l_text_by N_l_text_by ps_l_text_by (top 10) = true := by kernel_rfl
def N_law : List Str := ["_law_script", "_law_cell", "_law_word", "_law_found", "_law_due"]
def ps_law : List Str := ["_law_script"]
def n_law : Need := ⟨["_law_text_by", "_law_mixed", "number_in", "_law_number"], [], ["len", "isinstance", "bool", "int"]⟩
def b_law_1 : PT :=
    (.seq (.set 2 (.call "_law_text_by" (.acons (.call "_law_mixed" (.acons (.var 1) (.acons (.int 1) .anil))) (.acons (.call "_law_mixed" (.acons (.var 1) (.acons (.int 2) .anil))) .anil))))
    (.seq (.set 3 (.call "number_in" (.acons (.var 2) .anil)))
    (.seq (.set 4 (.call "_law_number" (.acons (.var 2) .anil)))
    (.seq (.ife (.cmp .Lt (.var 4) (.int 0)) (.seq (.ife (.cmp .IsNot (.var 3) .non) (.seq (.ret (.bl false))
    .nil) .nil)
    .nil) (.seq (.ife (.or (.not (.isi (.var 3) (.bty "int" "int"))) (.or (.isi (.var 3) (.bty "bool" "bool")) (.cmp .NotEq (.var 3) (.var 4)))) (.seq (.ret (.bl false))
    .nil) .nil)
    .nil))
    .nil))))
def b_law : PT :=
    (.seq (.for_ (.nm 1) .val (.acons (.bin .Add (.var 0) (.lst (.acons (.bi .len (.acons (.var 0) .anil)) .anil))) .anil) b_law_1)
    (.seq (.ret (.bl true))
    .nil))
theorem cb_law : defB n_law b_law N_law ps_law (top 11) = true := by kernel_rfl
end L2.L3.K02

set_option Elab.async false
set_option linter.all false
set_option maxRecDepth 100000
set_option maxHeartbeats 4000000
namespace L2.L3.K02
open PySem PySem.Spec PyProof.Rows L2 L2.L3 L2.L3.Lib
def sp_figures_by : PSp where
  md := []
  nw := false
  run := fun ds Q _ => ∃ n : Int, ds = [.int n] ∧ ∀ w : Str, w.length ≤ 10 → Q (.str w)
  mono := fun h _ ⟨n, e, q⟩ => ⟨n, e, fun w hw => h _ (q w hw)⟩
def sp_text_by : PSp where
  md := []
  nw := false
  run := fun ds Q _ => ∃ n m : Int, ds = [.int n, .int m] ∧ ∀ w : Str, w.length ≤ 100 → Q (.str w)
  mono := fun h _ ⟨n, m, e, q⟩ => ⟨n, m, e, fun w hw => h _ (q w hw)⟩
theorem len_num {n : Int} (h0 : 0 ≤ n) (h : n < 10000000000) : (Str.ofString (toString n)).length ≤ 10 := toString_length_le h0 (by decide) (by rw [show (10 : Int) ^ 10 = 10000000000 from rfl]; exact h)
theorem log_num {n : Int} (h0 : 0 ≤ n) (h : n < 10000000000) : n.natAbs.log2 < 1920 := by
  rcases Nat.eq_zero_or_pos n.natAbs with e | e
  · rw [e]; decide
  · refine (Nat.log2_lt (by omega)).mpr (Nat.lt_of_lt_of_le (show n.natAbs < 2 ^ 34 by omega) (Nat.pow_le_pow_right (by decide) (by decide)))
theorem ok_figures_by {Ψ : PEv} (ds Q E) (h : sp_figures_by.run ds Q E) : ds.length = ps_l_figures_by.length ∧ pws Ψ (fun _ => False) b_l_figures_by (endsP sp_figures_by Q) (startP N_l_figures_by sp_figures_by.md ds) := by
  obtain ⟨n, rfl, q⟩ := h
  refine ⟨rfl, ?_⟩
  have hz : sizeLine = 16777216 := sizeLine_eq
  simp only [b_l_figures_by, N_l_figures_by, sp_figures_by, CPow, Int.reduceToNat, pws, pe, setAllD, entP, maskP, isNop, dsOf, lsOf, escB, noOwn, lentB, lockVars, lock, unlockF, ownAt, ownL, mutOf, isMut, startP, parP, parS, endsP, rdV.eq_1, rdV.eq_2, rdV.eq_3, rdR.eq_1, rdR.eq_2, bindD.eq_1, bindD.eq_2, binD.eq_1, binD.eq_2, binD.eq_3, binD.eq_4, binD.eq_5, binD.eq_6, binD.eq_7, binD.eq_8, binD.eq_9, binD.eq_10, cmpD.eq_1, cmpD.eq_2, cmpD.eq_3, cmpD.eq_4, cmpD.eq_5, cmpD.eq_6, cmpD.eq_7, cmpD.eq_8, cmpD.eq_9, cmpD.eq_10, eqD.eq_1, eqD.eq_2, eqD.eq_3, eqD.eq_4, ordD.eq_1, inD.eq_1, inD.eq_2, inD.eq_3, isND.eq_1, truD.eq_1, truD.eq_2, truD.eq_3, truD.eq_4, truD.eq_5, truD.eq_6, asD.eq_1, idxD.eq_1, idxD.eq_2, idxD.eq_3, slcD.eq_1, slcD.eq_2, slcD.eq_3, partD.eq_1, isiD.eq_1, biD.eq_1, biD.eq_2, biD.eq_3, biD.eq_4, biD.eq_5, biD.eq_6, biD.eq_7, biD.eq_8, biD.eq_9, biD.eq_10, mtD.eq_1, mtD.eq_2, mtD.eq_3, mtTy.eq_1, mtTy.eq_2, mtTy.eq_3, itemsD.eq_1, itemsD.eq_2, itemsD.eq_3, itemsD.eq_4, itemsD.eq_5, ownO.eq_1, ownO.eq_2, ownO.eq_3, ownO.eq_4, ownO.eq_5, mutE.eq_1, mutE.eq_2, ownV.eq_1, sixD.eq_1, mutL.eq_1, Kd.esc.eq_1, Kd.esc.eq_2, Kd.esc.eq_3, Kd.isOwn.eq_1, Kd.isOwn.eq_2, isD.eq_1, isD.eq_2, isD.eq_3, isD.eq_4, isD.eq_5, isD.eq_6, isNonD.eq_1, isNonD.eq_2, List.headD, List.tail, List.length_cons, List.length_nil, List.getElem?_cons_zero, List.getElem?_cons_succ, List.cons_append, List.nil_append, List.replicate, List.set_cons_zero, List.set_cons_succ, Nat.reduceAdd, Nat.reduceSub, Nat.zero_add, Bool.and_true, Bool.true_and, Bool.not_true, Bool.not_false, Bool.or_true, Bool.true_or, Bool.or_false, Bool.false_or, Bool.and_false, Bool.false_and, if_true, if_false, Bool.false_eq_true, true_and, and_true, false_implies, ne_eq, reduceCtorEq, not_false_eq_true, not_true_eq_false, List.map_cons, List.map_nil, implies_true, forall_const, Int.reduceLT, Int.reduceLE, Int.reducePow, Int.reduceNeg, Nat.reducePow, and_self, List.cons.injEq, PyData.int.injEq, PyData.str.injEq, PyData.bool.injEq, PyData.list.injEq, PyData.tuple.injEq, exists_eq_left', exists_eq_left, ↓reduceIte, eq_self, exists_and_left, exists_eq', exists_eq, exists_const, Option.some.injEq, Sl.fro.injEq, Sl.own.injEq, Sl.bor.injEq, and_assoc, decide_true, decide_false]
  have t10 : (10 : Int).natAbs < 18446744073709551616 := by decide
  have fin : ∀ m : Int, 0 ≤ m → m < 10000000000 → m.natAbs.log2 < 1920 ∧ Q (.str (Str.ofString (toString m))) := fun m h0 h1 => ⟨log_num h0 h1, q _ (len_num h0 h1)⟩
  have last : Int.natAbs 10 < 18446744073709551616 ∧ (n / 128 % 10000000000).natAbs.log2 < 1920 ∧ (Str.ofString (toString (n / 128 % 10000000000))).length ≤ sizeLine ∧ Q (PyData.str (Txt.slice (Str.ofString (toString (n / 128 % 10000000000))) none (some (1 + n / 4 % 10)))) := by
    have l := len_num (n := n / 128 % 10000000000) (by omega) (by omega)
    exact ⟨t10, log_num (by omega) (by omega), by omega, q _ (Nat.le_trans (Txt.slice_le _ _ _) l)⟩
  refine ite2 (fun _ => ⟨t10, fin _ (by omega) (by omega)⟩) fun _ => ite2 (fun _ => ite2 (fun _ => fin _ (by omega) (by omega)) fun _ => ite2 (fun _ => fin _ (by omega) (by omega)) fun _ => last) fun _ => ite2 (fun _ => fin _ (by omega) (by omega)) fun _ => last
theorem ok_text_by {Ψ : PEv} (h1 : Ψ.sp "_law_figures_by" = sp_figures_by) (h2 : Ψ.sp "_law_sign_by" = sp_sign_by) (ds Q E) (h : sp_text_by.run ds Q E) : ds.length = ps_l_text_by.length ∧ pws Ψ (fun _ => False) b_l_text_by (endsP sp_text_by Q) (startP N_l_text_by sp_text_by.md ds) := by
  obtain ⟨n, m, rfl, q⟩ := h
  refine ⟨rfl, ?_⟩
  have hz : sizeLine = 16777216 := sizeLine_eq
  have zl : (Str.ofString "0").length = 1 := by decide +kernel
  have rep : ∀ k : Int, 0 ≤ k → (repS (Str.ofString "0") k).length = k.toNat := by
    intro k hk
    rw [repS_len, zl]
    omega
  have R1 : ∀ (w s : Str) (way at_ : Int), w.length ≤ 10 → s.length = 1 → pws Ψ (fun _ => False) b_l_text_by_r1 ⟨fun _ => Q .none, fun d _ => Q d, fun _ => False, fun _ => False⟩ [some (.fro (.int n)), some (.fro (.int m)), some (.fro (.str w)), some (.fro (.int way)), some (.fro (.int at_)), some (.fro (.str s))] := by
    intro w s way at_ hw hs
    have l1 := rep (m / 8 % 21) (by omega)
    have l2 := rep (m / 8 % 4) (by omega)
    have a1 := Txt.slice_le w none (some at_)
    have a2 := Txt.slice_le w (some at_) none
    have a3 := Txt.slice_le w (some (at_ + 1)) none
    simp only [b_l_text_by_r1, zl, pws, pe, setAllD, entP, maskP, isNop, dsOf, lsOf, escB, noOwn, lentB, lockVars, lock, unlockF, ownAt, ownL, mutOf, isMut, startP, parP, parS, endsP, rdV.eq_1, rdV.eq_2, rdV.eq_3, rdR.eq_1, rdR.eq_2, bindD.eq_1, bindD.eq_2, binD.eq_1, binD.eq_2, binD.eq_3, binD.eq_4, binD.eq_5, binD.eq_6, binD.eq_7, binD.eq_8, binD.eq_9, binD.eq_10, cmpD.eq_1, cmpD.eq_2, cmpD.eq_3, cmpD.eq_4, cmpD.eq_5, cmpD.eq_6, cmpD.eq_7, cmpD.eq_8, cmpD.eq_9, cmpD.eq_10, eqD.eq_1, eqD.eq_2, eqD.eq_3, eqD.eq_4, ordD.eq_1, inD.eq_1, inD.eq_2, inD.eq_3, isND.eq_1, truD.eq_1, truD.eq_2, truD.eq_3, truD.eq_4, truD.eq_5, truD.eq_6, asD.eq_1, idxD.eq_1, idxD.eq_2, idxD.eq_3, slcD.eq_1, slcD.eq_2, slcD.eq_3, partD.eq_1, isiD.eq_1, biD.eq_1, biD.eq_2, biD.eq_3, biD.eq_4, biD.eq_5, biD.eq_6, biD.eq_7, biD.eq_8, biD.eq_9, biD.eq_10, mtD.eq_1, mtD.eq_2, mtD.eq_3, mtTy.eq_1, mtTy.eq_2, mtTy.eq_3, itemsD.eq_1, itemsD.eq_2, itemsD.eq_3, itemsD.eq_4, itemsD.eq_5, ownO.eq_1, ownO.eq_2, ownO.eq_3, ownO.eq_4, ownO.eq_5, mutE.eq_1, mutE.eq_2, ownV.eq_1, sixD.eq_1, mutL.eq_1, Kd.esc.eq_1, Kd.esc.eq_2, Kd.esc.eq_3, Kd.isOwn.eq_1, Kd.isOwn.eq_2, isD.eq_1, isD.eq_2, isD.eq_3, isD.eq_4, isD.eq_5, isD.eq_6, isNonD.eq_1, isNonD.eq_2, List.headD, List.tail, List.length_cons, List.length_nil, List.getElem?_cons_zero, List.getElem?_cons_succ, List.cons_append, List.nil_append, List.replicate, List.set_cons_zero, List.set_cons_succ, Nat.reduceAdd, Nat.reduceSub, Nat.zero_add, Bool.and_true, Bool.true_and, Bool.not_true, Bool.not_false, Bool.or_true, Bool.true_or, Bool.or_false, Bool.false_or, Bool.and_false, Bool.false_and, if_true, if_false, Bool.false_eq_true, true_and, and_true, false_implies, ne_eq, reduceCtorEq, not_false_eq_true, not_true_eq_false, List.map_cons, List.map_nil, implies_true, forall_const, Int.reduceLT, Int.reduceLE, Int.reducePow, Int.reduceNeg, Nat.reducePow, and_self, List.cons.injEq, PyData.int.injEq, PyData.str.injEq, PyData.bool.injEq, PyData.list.injEq, PyData.tuple.injEq, exists_eq_left', exists_eq_left, ↓reduceIte, eq_self, exists_and_left, exists_eq', exists_eq, exists_const, Option.some.injEq, Sl.fro.injEq, Sl.own.injEq, Sl.bor.injEq, and_assoc, decide_true, decide_false]
    refine ite2 (fun _ => ⟨by omega, by omega, by omega, by omega, q _ (by rw [Str.length_append]; omega)⟩) fun _ => ?_
    refine ite2 (fun _ => ⟨by omega, by omega, by omega, by omega, q _ (by rw [Str.length_append]; omega)⟩) fun _ => ?_
    refine ite2 (fun _ => ⟨by omega, by omega, by omega, by rw [Str.length_append]; omega, q _ (by rw [Str.length_append, Str.length_append]; omega)⟩) fun _ => ?_
    refine ite2 (fun _ => ⟨by omega, by omega, by omega, by rw [Str.length_append]; omega, q _ (by rw [Str.length_append, Str.length_append]; omega)⟩) fun _ => ?_
    refine ite2 (fun _ => ⟨by omega, by omega, by omega, q _ (by rw [Str.length_append]; omega)⟩) fun _ => ?_
    exact q _ (by omega)
  simp only [b_l_text_by, N_l_text_by, sp_text_by, h1, h2, sp_figures_by, sp_sign_by, pws, pe, setAllD, entP, maskP, isNop, dsOf, lsOf, escB, noOwn, lentB, lockVars, lock, unlockF, ownAt, ownL, mutOf, isMut, startP, parP, parS, endsP, rdV.eq_1, rdV.eq_2, rdV.eq_3, rdR.eq_1, rdR.eq_2, bindD.eq_1, bindD.eq_2, binD.eq_1, binD.eq_2, binD.eq_3, binD.eq_4, binD.eq_5, binD.eq_6, binD.eq_7, binD.eq_8, binD.eq_9, binD.eq_10, cmpD.eq_1, cmpD.eq_2, cmpD.eq_3, cmpD.eq_4, cmpD.eq_5, cmpD.eq_6, cmpD.eq_7, cmpD.eq_8, cmpD.eq_9, cmpD.eq_10, eqD.eq_1, eqD.eq_2, eqD.eq_3, eqD.eq_4, ordD.eq_1, inD.eq_1, inD.eq_2, inD.eq_3, isND.eq_1, truD.eq_1, truD.eq_2, truD.eq_3, truD.eq_4, truD.eq_5, truD.eq_6, asD.eq_1, idxD.eq_1, idxD.eq_2, idxD.eq_3, slcD.eq_1, slcD.eq_2, slcD.eq_3, partD.eq_1, isiD.eq_1, biD.eq_1, biD.eq_2, biD.eq_3, biD.eq_4, biD.eq_5, biD.eq_6, biD.eq_7, biD.eq_8, biD.eq_9, biD.eq_10, mtD.eq_1, mtD.eq_2, mtD.eq_3, mtTy.eq_1, mtTy.eq_2, mtTy.eq_3, itemsD.eq_1, itemsD.eq_2, itemsD.eq_3, itemsD.eq_4, itemsD.eq_5, ownO.eq_1, ownO.eq_2, ownO.eq_3, ownO.eq_4, ownO.eq_5, mutE.eq_1, mutE.eq_2, ownV.eq_1, sixD.eq_1, mutL.eq_1, Kd.esc.eq_1, Kd.esc.eq_2, Kd.esc.eq_3, Kd.isOwn.eq_1, Kd.isOwn.eq_2, isD.eq_1, isD.eq_2, isD.eq_3, isD.eq_4, isD.eq_5, isD.eq_6, isNonD.eq_1, isNonD.eq_2, List.headD, List.tail, List.length_cons, List.length_nil, List.getElem?_cons_zero, List.getElem?_cons_succ, List.cons_append, List.nil_append, List.replicate, List.set_cons_zero, List.set_cons_succ, Nat.reduceAdd, Nat.reduceSub, Nat.zero_add, Bool.and_true, Bool.true_and, Bool.not_true, Bool.not_false, Bool.or_true, Bool.true_or, Bool.or_false, Bool.false_or, Bool.and_false, Bool.false_and, if_true, if_false, Bool.false_eq_true, true_and, and_true, false_implies, ne_eq, reduceCtorEq, not_false_eq_true, not_true_eq_false, List.map_cons, List.map_nil, implies_true, forall_const, Int.reduceLT, Int.reduceLE, Int.reducePow, Int.reduceNeg, Nat.reducePow, and_self, List.cons.injEq, PyData.int.injEq, PyData.str.injEq, PyData.bool.injEq, PyData.list.injEq, PyData.tuple.injEq, exists_eq_left', exists_eq_left, ↓reduceIte, eq_self, exists_and_left, exists_eq', exists_eq, exists_const, Option.some.injEq, Sl.fro.injEq, Sl.own.injEq, Sl.bor.injEq, and_assoc, decide_true, decide_false]
  intro w hw
  refine ⟨by omega, by omega, ?_⟩
  refine ite2 (fun _ => ?_) fun _ => R1 _ _ _ _ hw rfl
  have e' : ((Str.ofString "+-_ .").cps.toList).length = 5 := by decide +kernel
  obtain ⟨c, h1, _⟩ := atI_pos (xs := (Str.ofString "+-_ .").cps.toList) (i := m / 512 % 5) (by omega) (by rw [e']; omega)
  exact ⟨by decide +kernel, c, h1, R1 _ _ _ _ hw rfl⟩
theorem ok_law {Ψ : PEv} (h1 : Ψ.sp "_law_text_by" = sp_text_by) (h2 : Ψ.sp "_law_mixed" = sp_mixed) (h3 : Ψ.sp "number_in" = sp_number_in) (h4 : Ψ.sp "_law_number" = sp_l_number) (ds Q E) (h : pLaw.run ds Q E) :
    ds.length = ps_law.length ∧ pws Ψ (fun _ => False) b_law (endsP pLaw Q) (startP N_law pLaw.md ds) := by
  obtain ⟨ns, hl, hb, rfl, q⟩ := h
  refine ⟨rfl, ?_⟩
  have hz : sizeLine = 16777216 := sizeLine_eq
  simp only [b_law, N_law, pLaw, pws, pe, setAllD, entP, maskP, isNop, dsOf, lsOf, escB, noOwn, lentB, lockVars, lock, unlockF, ownAt, ownL, mutOf, isMut, startP, parP, parS, endsP, rdV.eq_1, rdV.eq_2, rdV.eq_3, rdR.eq_1, rdR.eq_2, bindD.eq_1, bindD.eq_2, binD.eq_1, binD.eq_2, binD.eq_3, binD.eq_4, binD.eq_5, binD.eq_6, binD.eq_7, binD.eq_8, binD.eq_9, binD.eq_10, cmpD.eq_1, cmpD.eq_2, cmpD.eq_3, cmpD.eq_4, cmpD.eq_5, cmpD.eq_6, cmpD.eq_7, cmpD.eq_8, cmpD.eq_9, cmpD.eq_10, eqD.eq_1, eqD.eq_2, eqD.eq_3, eqD.eq_4, ordD.eq_1, inD.eq_1, inD.eq_2, inD.eq_3, isND.eq_1, truD.eq_1, truD.eq_2, truD.eq_3, truD.eq_4, truD.eq_5, truD.eq_6, asD.eq_1, idxD.eq_1, idxD.eq_2, idxD.eq_3, slcD.eq_1, slcD.eq_2, slcD.eq_3, partD.eq_1, isiD.eq_1, biD.eq_1, biD.eq_2, biD.eq_3, biD.eq_4, biD.eq_5, biD.eq_6, biD.eq_7, biD.eq_8, biD.eq_9, biD.eq_10, mtD.eq_1, mtD.eq_2, mtD.eq_3, mtTy.eq_1, mtTy.eq_2, mtTy.eq_3, itemsD.eq_1, itemsD.eq_2, itemsD.eq_3, itemsD.eq_4, itemsD.eq_5, ownO.eq_1, ownO.eq_2, ownO.eq_3, ownO.eq_4, ownO.eq_5, mutE.eq_1, mutE.eq_2, ownV.eq_1, sixD.eq_1, mutL.eq_1, Kd.esc.eq_1, Kd.esc.eq_2, Kd.esc.eq_3, Kd.isOwn.eq_1, Kd.isOwn.eq_2, isD.eq_1, isD.eq_2, isD.eq_3, isD.eq_4, isD.eq_5, isD.eq_6, isNonD.eq_1, isNonD.eq_2, List.headD, List.tail, List.length_cons, List.length_nil, List.getElem?_cons_zero, List.getElem?_cons_succ, List.cons_append, List.nil_append, List.replicate, List.set_cons_zero, List.set_cons_succ, Nat.reduceAdd, Nat.reduceSub, Nat.zero_add, Bool.and_true, Bool.true_and, Bool.not_true, Bool.not_false, Bool.or_true, Bool.true_or, Bool.or_false, Bool.false_or, Bool.and_false, Bool.false_and, if_true, if_false, Bool.false_eq_true, true_and, and_true, false_implies, ne_eq, reduceCtorEq, not_false_eq_true, not_true_eq_false, List.map_cons, List.map_nil, implies_true, forall_const, Int.reduceLT, Int.reduceLE, Int.reducePow, Int.reduceNeg, Nat.reducePow, and_self, List.cons.injEq, PyData.int.injEq, PyData.str.injEq, PyData.bool.injEq, PyData.list.injEq, PyData.tuple.injEq, exists_eq_left', exists_eq_left, ↓reduceIte, eq_self, exists_and_left, exists_eq', exists_eq, exists_const, Option.some.injEq, Sl.fro.injEq, Sl.own.injEq, Sl.bor.injEq, and_assoc, decide_true, decide_false]
  have e : List.map PyData.int ns ++ [PyData.int ((List.map PyData.int ns).length : Nat)] = (ns ++ [(ns.length : Int)]).map PyData.int := by simp
  rw [e]
  refine ⟨by omega, by simp; omega, for_inv PyData.int (fun l ρ => ∃ s a b c d, ρ = [s, a, b, c, d] ∧ ∀ n ∈ l, Builtin.Int.intBits n ≤ 1048576) ?_ ?_ _ _ ⟨_, _, _, _, _, rfl, ?_⟩⟩
  · rintro _ ⟨s, a, b, c, d, rfl, _⟩
    exact ⟨fun i hi => absurd hi (by simp), q⟩
  · rintro n l _ ⟨s, a, b, c, d, rfl, hn⟩
    simp only [b_law_1, h1, h2, h3, h4, sp_text_by, sp_mixed, sp_number_in, sp_l_number, pws, pe, setAllD, entP, maskP, isNop, dsOf, lsOf, escB, noOwn, lentB, lockVars, lock, unlockF, ownAt, ownL, mutOf, isMut, startP, parP, parS, endsP, rdV.eq_1, rdV.eq_2, rdV.eq_3, rdR.eq_1, rdR.eq_2, bindD.eq_1, bindD.eq_2, binD.eq_1, binD.eq_2, binD.eq_3, binD.eq_4, binD.eq_5, binD.eq_6, binD.eq_7, binD.eq_8, binD.eq_9, binD.eq_10, cmpD.eq_1, cmpD.eq_2, cmpD.eq_3, cmpD.eq_4, cmpD.eq_5, cmpD.eq_6, cmpD.eq_7, cmpD.eq_8, cmpD.eq_9, cmpD.eq_10, eqD.eq_1, eqD.eq_2, eqD.eq_3, eqD.eq_4, ordD.eq_1, inD.eq_1, inD.eq_2, inD.eq_3, isND.eq_1, truD.eq_1, truD.eq_2, truD.eq_3, truD.eq_4, truD.eq_5, truD.eq_6, asD.eq_1, idxD.eq_1, idxD.eq_2, idxD.eq_3, slcD.eq_1, slcD.eq_2, slcD.eq_3, partD.eq_1, isiD.eq_1, biD.eq_1, biD.eq_2, biD.eq_3, biD.eq_4, biD.eq_5, biD.eq_6, biD.eq_7, biD.eq_8, biD.eq_9, biD.eq_10, mtD.eq_1, mtD.eq_2, mtD.eq_3, mtTy.eq_1, mtTy.eq_2, mtTy.eq_3, itemsD.eq_1, itemsD.eq_2, itemsD.eq_3, itemsD.eq_4, itemsD.eq_5, ownO.eq_1, ownO.eq_2, ownO.eq_3, ownO.eq_4, ownO.eq_5, mutE.eq_1, mutE.eq_2, ownV.eq_1, sixD.eq_1, mutL.eq_1, Kd.esc.eq_1, Kd.esc.eq_2, Kd.esc.eq_3, Kd.isOwn.eq_1, Kd.isOwn.eq_2, isD.eq_1, isD.eq_2, isD.eq_3, isD.eq_4, isD.eq_5, isD.eq_6, isNonD.eq_1, isNonD.eq_2, List.headD, List.tail, List.length_cons, List.length_nil, List.getElem?_cons_zero, List.getElem?_cons_succ, List.cons_append, List.nil_append, List.replicate, List.set_cons_zero, List.set_cons_succ, Nat.reduceAdd, Nat.reduceSub, Nat.zero_add, Bool.and_true, Bool.true_and, Bool.not_true, Bool.not_false, Bool.or_true, Bool.true_or, Bool.or_false, Bool.false_or, Bool.and_false, Bool.false_and, if_true, if_false, Bool.false_eq_true, true_and, and_true, false_implies, ne_eq, reduceCtorEq, not_false_eq_true, not_true_eq_false, List.map_cons, List.map_nil, implies_true, forall_const, Int.reduceLT, Int.reduceLE, Int.reducePow, Int.reduceNeg, Nat.reducePow, and_self, List.cons.injEq, PyData.int.injEq, PyData.str.injEq, PyData.bool.injEq, PyData.list.injEq, PyData.tuple.injEq, exists_eq_left', exists_eq_left, ↓reduceIte, eq_self, exists_and_left, exists_eq', exists_eq, exists_const, Option.some.injEq, Sl.fro.injEq, Sl.own.injEq, Sl.bor.injEq, and_assoc, decide_true, decide_false]
    have hl' := fun (m : Int) (hm : m ∈ l) => hn m (List.mem_cons_of_mem _ hm)
    refine ⟨hn n List.mem_cons_self, hn n List.mem_cons_self, fun w hw => ⟨by omega, by omega, ?_⟩⟩
    unfold numIn
    cases hw : isNum w with
    | false =>
      simp only [Bool.false_eq_true, if_false, pws, pe, setAllD, entP, maskP, isNop, dsOf, lsOf, escB, noOwn, lentB, lockVars, lock, unlockF, ownAt, ownL, mutOf, isMut, startP, parP, parS, endsP, rdV.eq_1, rdV.eq_2, rdV.eq_3, rdR.eq_1, rdR.eq_2, bindD.eq_1, bindD.eq_2, binD.eq_1, binD.eq_2, binD.eq_3, binD.eq_4, binD.eq_5, binD.eq_6, binD.eq_7, binD.eq_8, binD.eq_9, binD.eq_10, cmpD.eq_1, cmpD.eq_2, cmpD.eq_3, cmpD.eq_4, cmpD.eq_5, cmpD.eq_6, cmpD.eq_7, cmpD.eq_8, cmpD.eq_9, cmpD.eq_10, eqD.eq_1, eqD.eq_2, eqD.eq_3, eqD.eq_4, ordD.eq_1, inD.eq_1, inD.eq_2, inD.eq_3, isND.eq_1, truD.eq_1, truD.eq_2, truD.eq_3, truD.eq_4, truD.eq_5, truD.eq_6, asD.eq_1, idxD.eq_1, idxD.eq_2, idxD.eq_3, slcD.eq_1, slcD.eq_2, slcD.eq_3, partD.eq_1, isiD.eq_1, biD.eq_1, biD.eq_2, biD.eq_3, biD.eq_4, biD.eq_5, biD.eq_6, biD.eq_7, biD.eq_8, biD.eq_9, biD.eq_10, mtD.eq_1, mtD.eq_2, mtD.eq_3, mtTy.eq_1, mtTy.eq_2, mtTy.eq_3, itemsD.eq_1, itemsD.eq_2, itemsD.eq_3, itemsD.eq_4, itemsD.eq_5, ownO.eq_1, ownO.eq_2, ownO.eq_3, ownO.eq_4, ownO.eq_5, mutE.eq_1, mutE.eq_2, ownV.eq_1, sixD.eq_1, mutL.eq_1, Kd.esc.eq_1, Kd.esc.eq_2, Kd.esc.eq_3, Kd.isOwn.eq_1, Kd.isOwn.eq_2, isD.eq_1, isD.eq_2, isD.eq_3, isD.eq_4, isD.eq_5, isD.eq_6, isNonD.eq_1, isNonD.eq_2, List.headD, List.tail, List.length_cons, List.length_nil, List.getElem?_cons_zero, List.getElem?_cons_succ, List.cons_append, List.nil_append, List.replicate, List.set_cons_zero, List.set_cons_succ, Nat.reduceAdd, Nat.reduceSub, Nat.zero_add, Bool.and_true, Bool.true_and, Bool.not_true, Bool.not_false, Bool.or_true, Bool.true_or, Bool.or_false, Bool.false_or, Bool.and_false, Bool.false_and, if_true, if_false, Bool.false_eq_true, true_and, and_true, false_implies, ne_eq, reduceCtorEq, not_false_eq_true, not_true_eq_false, List.map_cons, List.map_nil, implies_true, forall_const, Int.reduceLT, Int.reduceLE, Int.reducePow, Int.reduceNeg, Nat.reducePow, and_self, List.cons.injEq, PyData.int.injEq, PyData.str.injEq, PyData.bool.injEq, PyData.list.injEq, PyData.tuple.injEq, exists_eq_left', exists_eq_left, ↓reduceIte, eq_self, exists_and_left, exists_eq', exists_eq, exists_const, Option.some.injEq, Sl.fro.injEq, Sl.own.injEq, Sl.bor.injEq, and_assoc, decide_true, decide_false]
      exact hl'
    | true =>
      have h0 : 0 ≤ numVal w := Int.natCast_nonneg _
      have e : decide (numVal w < 0) = false := decide_eq_false (by omega)
      simp only [if_true, e, pws, pe, setAllD, entP, maskP, isNop, dsOf, lsOf, escB, noOwn, lentB, lockVars, lock, unlockF, ownAt, ownL, mutOf, isMut, startP, parP, parS, endsP, rdV.eq_1, rdV.eq_2, rdV.eq_3, rdR.eq_1, rdR.eq_2, bindD.eq_1, bindD.eq_2, binD.eq_1, binD.eq_2, binD.eq_3, binD.eq_4, binD.eq_5, binD.eq_6, binD.eq_7, binD.eq_8, binD.eq_9, binD.eq_10, cmpD.eq_1, cmpD.eq_2, cmpD.eq_3, cmpD.eq_4, cmpD.eq_5, cmpD.eq_6, cmpD.eq_7, cmpD.eq_8, cmpD.eq_9, cmpD.eq_10, eqD.eq_1, eqD.eq_2, eqD.eq_3, eqD.eq_4, ordD.eq_1, inD.eq_1, inD.eq_2, inD.eq_3, isND.eq_1, truD.eq_1, truD.eq_2, truD.eq_3, truD.eq_4, truD.eq_5, truD.eq_6, asD.eq_1, idxD.eq_1, idxD.eq_2, idxD.eq_3, slcD.eq_1, slcD.eq_2, slcD.eq_3, partD.eq_1, isiD.eq_1, biD.eq_1, biD.eq_2, biD.eq_3, biD.eq_4, biD.eq_5, biD.eq_6, biD.eq_7, biD.eq_8, biD.eq_9, biD.eq_10, mtD.eq_1, mtD.eq_2, mtD.eq_3, mtTy.eq_1, mtTy.eq_2, mtTy.eq_3, itemsD.eq_1, itemsD.eq_2, itemsD.eq_3, itemsD.eq_4, itemsD.eq_5, ownO.eq_1, ownO.eq_2, ownO.eq_3, ownO.eq_4, ownO.eq_5, mutE.eq_1, mutE.eq_2, ownV.eq_1, sixD.eq_1, mutL.eq_1, Kd.esc.eq_1, Kd.esc.eq_2, Kd.esc.eq_3, Kd.isOwn.eq_1, Kd.isOwn.eq_2, isD.eq_1, isD.eq_2, isD.eq_3, isD.eq_4, isD.eq_5, isD.eq_6, isNonD.eq_1, isNonD.eq_2, List.headD, List.tail, List.length_cons, List.length_nil, List.getElem?_cons_zero, List.getElem?_cons_succ, List.cons_append, List.nil_append, List.replicate, List.set_cons_zero, List.set_cons_succ, Nat.reduceAdd, Nat.reduceSub, Nat.zero_add, Bool.and_true, Bool.true_and, Bool.not_true, Bool.not_false, Bool.or_true, Bool.true_or, Bool.or_false, Bool.false_or, Bool.and_false, Bool.false_and, if_true, if_false, Bool.false_eq_true, true_and, and_true, false_implies, ne_eq, reduceCtorEq, not_false_eq_true, not_true_eq_false, List.map_cons, List.map_nil, implies_true, forall_const, Int.reduceLT, Int.reduceLE, Int.reducePow, Int.reduceNeg, Nat.reducePow, and_self, List.cons.injEq, PyData.int.injEq, PyData.str.injEq, PyData.bool.injEq, PyData.list.injEq, PyData.tuple.injEq, exists_eq_left', exists_eq_left, ↓reduceIte, eq_self, exists_and_left, exists_eq', exists_eq, exists_const, Option.some.injEq, Sl.fro.injEq, Sl.own.injEq, Sl.bor.injEq, and_assoc, decide_true, decide_false]
      exact ⟨rfl, rfl, hl'⟩
  · intro n hn
    rcases List.mem_append.mp hn with h | h
    · exact hb n h
    · have : n = (ns.length : Int) := by simpa using h
      rw [this, intBits_le_iff]
      exact Nat.lt_of_lt_of_le (show (ns.length : Int).natAbs < 2 ^ 6 by omega) (Nat.pow_le_pow_right (by decide) (by decide))
end L2.L3.K02

set_option Elab.async false
set_option linter.all false
set_option maxRecDepth 100000
set_option maxHeartbeats 4000000
namespace L2.L3.K02
open PySem PySem.Spec PyProof.Rows L2 L2.L3 L2.L3.Lib
def spT : List (Str × PSp) := [("_law_figures_by", sp_figures_by), ("_law_sign_by", sp_sign_by), ("_law_text_by", sp_text_by), ("_law_mixed", sp_mixed), ("is_made_of", sp_is_made_of), ("number_in", sp_number_in), ("_law_number", sp_l_number), ("law", pLaw)]
def vaT : List (Str × D) := [("FIGURES", .str figures), ("MOST_FIGURES", .int 9)]
def Ψ : PEv := tblEv spT vaT
theorem e_l_figures_by : Ψ.sp "_law_figures_by" = sp_figures_by := by kernel_rfl
theorem e_l_sign_by : Ψ.sp "_law_sign_by" = sp_sign_by := by kernel_rfl
theorem e_l_text_by : Ψ.sp "_law_text_by" = sp_text_by := by kernel_rfl
theorem e_l_mixed : Ψ.sp "_law_mixed" = sp_mixed := by kernel_rfl
theorem e_is_made_of : Ψ.sp "is_made_of" = sp_is_made_of := by kernel_rfl
theorem e_number_in : Ψ.sp "number_in" = sp_number_in := by kernel_rfl
theorem e_l_number : Ψ.sp "_law_number" = sp_l_number := by kernel_rfl
theorem e_law : Ψ.sp "law" = pLaw := by kernel_rfl
theorem v_FIGURES : Ψ.va "FIGURES" = some (.str figures) := by kernel_rfl
theorem v_MOST_FIGURES : Ψ.va "MOST_FIGURES" = some (.int 9) := by kernel_rfl
theorem all {P : Program} {w : World} {K : PySem.W.Frag} {h : Heap} {mg : Str → Option Value} {fa : Addr} (X : K.In h) (G : h.Ns mainGlobals mg) (hfa : mg "law" = some (.ref fa)) (d_l_figures_by : DefAt K "_law_figures_by" (top 9)) (d_l_sign_by : DefAt K "_law_sign_by" (top 7)) (d_l_text_by : DefAt K "_law_text_by" (top 10)) (d_l_mixed : DefAt K "_law_mixed" (top 6)) (d_is_made_of : DefAt K "is_made_of" (top 3)) (d_number_in : DefAt K "number_in" (top 4)) (d_l_number : DefAt K "_law_number" (top 8)) (d_law : DefAt K "law" (top 11)) (w_FIGURES : ValAt K "FIGURES" (.str figures)) (w_MOST_FIGURES : ValAt K "MOST_FIGURES" (.int 9)) (z_all : PySem.W.nsIn K mainGlobals "all" = some none) (z_bool : PySem.W.nsIn K mainGlobals "bool" = some none) (z_int : PySem.W.nsIn K mainGlobals "int" = some none) (z_isinstance : PySem.W.nsIn K mainGlobals "isinstance" = some none) (z_len : PySem.W.nsIn K mainGlobals "len" = some none) (z_str : PySem.W.nsIn K mainGlobals "str" = some none) :
    ∃ fd : FuncData, (∀ (s : Shared) (u : Value), BindsTo s fd ⟨[u], []⟩ [("_law_script", u)]) ∧ ∀ base : Heap, K.In base → base.Ns mainGlobals mg → FnOk P w K mg base CX0 8 fa fd ["_law_script"] (lift K pLaw) := by
  have VT : ∀ p ∈ vaT, ValAt K p.1 p.2 := by
    intro p hp
    simp only [vaT, List.mem_cons, List.not_mem_nil, or_false] at hp
    rcases hp with rfl | rfl
    · exact w_FIGURES
    · exact w_MOST_FIGURES
  have NT : ∀ y ∈ (["all", "bool", "int", "isinstance", "len", "str"] : List Str), PySem.W.nsIn K mainGlobals y = some none := by
    intro y hy
    simp only [List.mem_cons, List.not_mem_nil, or_false] at hy
    rcases hy with rfl | rfl | rfl | rfl | rfl | rfl
    · exact z_all
    · exact z_bool
    · exact z_int
    · exact z_isinstance
    · exact z_len
    · exact z_str
  refine law_at X G d_law rfl hfa e_law (fun _ _ _ _ _ _ us hl => match us, hl with | [_], _ => rfl) fun base kb nb f fd F hm => ?_
  have H_l_figures_by : Have P w K mg base Ψ 1 "_law_figures_by" := have_at X G d_l_figures_by cb_l_figures_by (fun _ _ _ _ _ _ us hl => match us, hl with | [_], _ => rfl) (fun g hg => by cases hg) (vals_ok X G VT (by kernel_rfl)) (fun y hy => NT y (sub_of (by kernel_rfl) y hy)) (by rw [e_l_figures_by]; exact ok_figures_by )
  have H_l_sign_by : Have P w K mg base Ψ 2 "_law_sign_by" := have_at X G d_l_sign_by cb_l_sign_by (fun _ _ _ _ _ _ us hl => match us, hl with | [_], _ => rfl) (fun g hg => by cases hg) (vals_ok X G VT (by kernel_rfl)) (fun y hy => NT y (sub_of (by kernel_rfl) y hy)) (by rw [e_l_sign_by]; exact ok_sign_by )
  have H_l_text_by : Have P w K mg base Ψ 3 "_law_text_by" := have_at X G d_l_text_by cb_l_text_by (fun _ _ _ _ _ _ us hl => match us, hl with | [_, _], _ => rfl) (fun g hg => by simp only [n_l_text_by, List.mem_cons, List.not_mem_nil, or_false] at hg; rcases hg with rfl | rfl <;> first | exact H_l_figures_by.mono (by decide) | exact H_l_sign_by.mono (by decide)) (vals_ok X G VT (by kernel_rfl)) (fun y hy => NT y (sub_of (by kernel_rfl) y hy)) (by rw [e_l_text_by]; exact ok_text_by e_l_figures_by e_l_sign_by)
  have H_l_mixed : Have P w K mg base Ψ 4 "_law_mixed" := have_at X G d_l_mixed cb_l_mixed (fun _ _ _ _ _ _ us hl => match us, hl with | [_, _], _ => rfl) (fun g hg => by cases hg) (vals_ok X G VT (by kernel_rfl)) (fun y hy => NT y (sub_of (by kernel_rfl) y hy)) (by rw [e_l_mixed]; exact ok_mixed )
  have H_is_made_of : Have P w K mg base Ψ 5 "is_made_of" := have_at X G d_is_made_of cb_is_made_of (fun _ _ _ _ _ _ us hl => match us, hl with | [_, _], _ => rfl) (fun g hg => by cases hg) (vals_ok X G VT (by kernel_rfl)) (fun y hy => NT y (sub_of (by kernel_rfl) y hy)) (by rw [e_is_made_of]; exact ok_is_made_of )
  have H_number_in : Have P w K mg base Ψ 6 "number_in" := have_at X G d_number_in cb_number_in (fun _ _ _ _ _ _ us hl => match us, hl with | [_], _ => rfl) (fun g hg => by simp only [n_number_in, List.mem_cons, List.not_mem_nil, or_false] at hg; rcases hg with rfl <;> first | exact H_is_made_of.mono (by decide)) (vals_ok X G VT (by kernel_rfl)) (fun y hy => NT y (sub_of (by kernel_rfl) y hy)) (by rw [e_number_in]; exact ok_number_in e_is_made_of v_FIGURES v_MOST_FIGURES)
  have H_l_number : Have P w K mg base Ψ 7 "_law_number" := have_at X G d_l_number cb_l_number (fun _ _ _ _ _ _ us hl => match us, hl with | [_], _ => rfl) (fun g hg => by cases hg) (vals_ok X G VT (by kernel_rfl)) (fun y hy => NT y (sub_of (by kernel_rfl) y hy)) (by rw [e_l_number]; exact ok_l_number )
  exact fn_def F cb_law (fun g hg => by simp only [n_law, List.mem_cons, List.not_mem_nil, or_false] at hg; rcases hg with rfl | rfl | rfl | rfl <;> first | exact H_l_text_by.mono (by decide) | exact H_l_mixed.mono (by decide) | exact H_number_in.mono (by decide) | exact H_l_number.mono (by decide)) (vals_ok X G VT (by kernel_rfl)) (fun y hy => PySem.W.mg_none_of X G (NT y (sub_of (by kernel_rfl) y hy))) (by rw [e_law]; exact ok_law e_l_text_by e_l_mixed e_number_in e_l_number)
end L2.L3.K02
open PySem PySem.W PyProof.Rows
set_option maxRecDepth 100000 in
set_option maxHeartbeats 0 in
theorem PySem.Challenge.cw_quoteweave_k02_numbers_holds : PySem.Challenge.rw_quoteweave_k02_numbers.Holds := by
  w_on; o_law; k_head; (case hw => w_witness2)
  k_fill
  refine L2.L3.walk_bits (l := PySem.Challenge.rw_quoteweave_k02_numbers) (k := 8) (x := "_law_script") rfl rfl ⟨rfl, by decide, by decide⟩ (fun w h Y => PySem.W.kIn_of Y) ?F
  case F =>
    intro w mg fa h KX G hmg
    refine' L2.L3.K02.all KX G hmg ?d0 ?d1 ?d2 ?d3 ?d4 ?d5 ?d6 ?d7 ?w0 ?w1 ?z0 ?z1 ?z2 ?z3 ?z4 ?z5
    (case d0 => refine' L2.L3.def_at ?a0 ?l0 ?c0 ?k0; (case a0 => k_is); (case l0 => k_is); (case c0 => k_is); (case k0 => k_is))
    (case d1 => refine' L2.L3.def_at ?a1 ?l1 ?c1 ?k1; (case a1 => k_is); (case l1 => k_is); (case c1 => k_is); (case k1 => k_is))
    (case d2 => refine' L2.L3.def_at ?a2 ?l2 ?c2 ?k2; (case a2 => k_is); (case l2 => k_is); (case c2 => k_is); (case k2 => k_is))
    (case d3 => refine' L2.L3.def_at ?a3 ?l3 ?c3 ?k3; (case a3 => k_is); (case l3 => k_is); (case c3 => k_is); (case k3 => k_is))
    (case d4 => refine' L2.L3.def_at ?a4 ?l4 ?c4 ?k4; (case a4 => k_is); (case l4 => k_is); (case c4 => k_is); (case k4 => k_is))
    (case d5 => refine' L2.L3.def_at ?a5 ?l5 ?c5 ?k5; (case a5 => k_is); (case l5 => k_is); (case c5 => k_is); (case k5 => k_is))
    (case d6 => refine' L2.L3.def_at ?a6 ?l6 ?c6 ?k6; (case a6 => k_is); (case l6 => k_is); (case c6 => k_is); (case k6 => k_is))
    (case d7 => refine' L2.L3.def_at ?a7 ?l7 ?c7 ?k7; (case a7 => k_is); (case l7 => k_is); (case c7 => k_is); (case k7 => k_is))
    (case w0 => refine' L2.L3.val_str' ?wa0 ?we0; (case wa0 => k_is); (case we0 => kernel_rfl))
    (case w1 => refine' L2.L3.val_int' ?wa1 ?we1; (case wa1 => k_is); (case we1 => kernel_rfl))
    (case z0 => k_is)
    (case z1 => k_is)
    (case z2 => k_is)
    (case z3 => k_is)
    (case z4 => k_is)
    (case z5 => k_is)
