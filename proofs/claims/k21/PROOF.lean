import PyProof.Rows.All
import Wide.All
import OpenK.AllK
import Wide.FinOn
import Lean
import PyProof.EqAt
import PyProof.EqKinds
import PyProof.TupleCall
import PyProof.NeKinds
import PyProof.ZipIter
import PyProof.EnumMake
import PySem.Challenge.RW_cubebook_k21_meets_and_joins
set_option Elab.async false
set_option linter.all false
set_option maxRecDepth 100000
/-! THE HAND LAYER, for ints, bools, texts, own classes, LISTS and tuples (index, slices, in, append, pop ..), calls, loops. Paste it whole ahead of your own text; what your proof does not reach may be deleted. -/
namespace L2
open PySem PySem.Spec PyProof.Rows

/-- a key: an int or a str -/
abbrev Key := Sum Int Str
def keyIs : Key → Value → Bool
  | .inl k, v => Value.isInt k v
  | .inr x, v => Value.isStrOf x v
def keyH (w : World) : Key → Int
  | .inl k => hashInt k
  | .inr x => hashStr w x
theorem keyIs_shape : ∀ {k : Key} {v : Value}, keyIs k v = true → (∃ i t, k = Sum.inl i ∧ v = Value.int i t) ∨ (∃ x t, k = Sum.inr x ∧ v = Value.str x t)
  | .inl i, v, h => by
    obtain ⟨t, e⟩ := Value.isInt_shape (k := i) (v := v) h
    exact .inl ⟨i, t, rfl, e⟩
  | .inr x, v, h => by
    obtain ⟨t, e⟩ := Value.isStrOf_shape (x := x) (v := v) h
    exact .inr ⟨x, t, rfl, e⟩
theorem keyIs_int (i : Int) (t : Tok) : keyIs (.inl i) (.int i t) = true := by simp [keyIs, Value.isInt]
theorem keyIs_str (x : Str) (t : Tok) : keyIs (.inr x) (.str x t) = true := by simp [keyIs, Value.isStrOf]
theorem key_ll (a b : Int) : decide ((Sum.inl a : Key) = Sum.inl b) = (a == b) := by
  by_cases e : a = b
  · subst e; simp
  · have h : ¬ (Sum.inl a : Key) = Sum.inl b := fun q => e (Sum.inl.inj q)
    rw [decide_eq_false h]
    exact (beq_eq_false_iff_ne.mpr e).symm
theorem key_rr (a b : Str) : decide ((Sum.inr a : Key) = Sum.inr b) = decide (a = b) := by
  by_cases e : a = b
  · subst e; simp
  · have h : ¬ (Sum.inr a : Key) = Sum.inr b := fun q => e (Sum.inr.inj q)
    rw [decide_eq_false h, decide_eq_false e]
theorem key_lr (a : Int) (b : Str) : decide ((Sum.inl a : Key) = Sum.inr b) = false := decide_eq_false (fun q => nomatch q)
theorem key_rl (a : Str) (b : Int) : decide ((Sum.inr a : Key) = Sum.inl b) = false := decide_eq_false (fun q => nomatch q)

def mixKind (prog : Program) (w : World) : PySem.KeyKind prog w Key where
  is := keyIs
  hash := keyH w
  inj := fun v a b ha hb => by
    rcases keyIs_shape ha with ⟨i, t, rfl, rfl⟩ | ⟨x, t, rfl, rfl⟩
    · rcases keyIs_shape hb with ⟨j, u, rfl, e⟩ | ⟨y, u, rfl, e⟩
      · injection e with e1 _; rw [e1]
      · exact nomatch e
    · rcases keyIs_shape hb with ⟨j, u, rfl, e⟩ | ⟨y, u, rfl, e⟩
      · exact nomatch e
      · injection e with e1 _; rw [e1]
  byValue := fun k v h => by
    rcases keyIs_shape h with ⟨i, t, rfl, rfl⟩ | ⟨x, t, rfl, rfl⟩ <;> rfl
  pyHash := fun hv h => by
    rcases keyIs_shape hv with ⟨i, t, rfl, rfl⟩ | ⟨x, t, rfl, rfl⟩
    · exact wpAny_pyHash_int h
    · exact wpAny_pyHash_str h
  eqBool := fun hu hv h => by
    rcases keyIs_shape hu with ⟨i, t, rfl, rfl⟩ | ⟨x, t, rfl, rfl⟩
    · rcases keyIs_shape hv with ⟨j, u, rfl, rfl⟩ | ⟨y, u, rfl, rfl⟩
      · rw [key_ll] at h; exact wpAny_eqBool_int h
      · rw [key_lr] at h; exact SeqAt.EqAt.int_str i t y u _ _ _ _ h
    · rcases keyIs_shape hv with ⟨j, u, rfl, rfl⟩ | ⟨y, u, rfl, rfl⟩
      · rw [key_rl] at h; exact SeqAt.EqAt.str_int x t j u _ _ _ _ h
      · rw [key_rr] at h; exact wpAny_eqBool_str h
  «strs» := fun k x t v h => by
    rcases keyIs_shape h with ⟨i, u, rfl, e⟩ | ⟨y, u, rfl, e⟩
    · exact nomatch e
    · injection e with e1 _
      subst e1
      cases v <;> rfl

theorem mixKind_is (prog : Program) (w : World) (k : Key) (v : Value) : (mixKind prog w).is k v = keyIs k v := rfl
theorem mixKind_int (prog : Program) (w : World) (i : Int) (t : Tok) : (mixKind prog w).is (.inl i) (.int i t) = true := keyIs_int i t
theorem mixKind_str (prog : Program) (w : World) (x : Str) (t : Tok) : (mixKind prog w).is (.inr x) (.str x t) = true := keyIs_str x t
end L2

namespace L2
open PySem PySem.Spec PyProof.Rows

/-- a value, without the heap -/
inductive V where
  | non | bl (b : Bool) | int (i : Int) | str (x : Str) | byt (b : Array UInt8) | flt (b : UInt64) | ref (a : Addr) | ty (n : String)
  deriving DecidableEq

def RelV : V → Value → Prop
  | .non, u => u = Value.none
  | .bl b, u => u = Value.bool b
  | .int i, u => ∃ t, u = Value.int i t
  | .str x, u => ∃ t, u = Value.str x t
  | .byt b, u => ∃ t, u = Value.bytes b t
  | .flt b, u => ∃ t, u = Value.float b t
  | .ref a, u => u = Value.ref a
  | .ty n, u => u = Value.type n

abbrev Vals : List V → List Value → Prop := Paired RelV
theorem Vals.length {xs : List V} {us : List Value} (r : Vals xs us) : xs.length = us.length := Paired.length r
theorem Vals.get : ∀ {xs : List V} {us : List Value} {i : Nat} {x : V}, Vals xs us → xs[i]? = some x → ∃ u, us[i]? = some u ∧ RelV x u
  | _, _, _, _, .nil, e => by simp at e
  | _, _, 0, _, .cons r _, e => by simp at e; subst e; exact ⟨_, rfl, r⟩
  | _, _, i + 1, x, .cons _ t, e => by
    obtain ⟨u, h1, h2⟩ := Vals.get (i := i) (x := x) t (by simpa using e)
    exact ⟨u, by simpa using h1, h2⟩
theorem Vals.set {x : V} {u : Value} (r : RelV x u) : ∀ {xs : List V} {us : List Value} (i : Nat), Vals xs us → Vals (xs.set i x) (us.set i u)
  | _, _, _, .nil => .nil
  | _, _, 0, .cons _ t => .cons r t
  | _, _, i + 1, .cons q t => .cons q (Vals.set r i t)
theorem Vals.append : ∀ {xs ys : List V} {us ws : List Value}, Vals xs us → Vals ys ws → Vals (xs ++ ys) (us ++ ws)
  | _, _, _, _, .nil, s => s
  | _, _, _, _, .cons r t, s => .cons r (Vals.append t s)
theorem Vals.take : ∀ {xs : List V} {us : List Value} (n : Nat), Vals xs us → Vals (xs.take n) (us.take n)
  | _, _, 0, _ => .nil
  | _, _, _ + 1, .nil => .nil
  | _, _, n + 1, .cons r t => .cons r (Vals.take n t)
theorem Vals.drop : ∀ {xs : List V} {us : List Value} (n : Nat), Vals xs us → Vals (xs.drop n) (us.drop n)
  | _, _, 0, r => r
  | _, _, _ + 1, .nil => .nil
  | _, _, n + 1, .cons _ t => Vals.drop n t
theorem Vals.none_of : ∀ {xs : List V} {us : List Value} {i : Nat}, Vals xs us → xs[i]? = none → us[i]? = none := fun {xs us i} r e => by
  have h1 := r.length
  have h2 : xs.length ≤ i := List.getElem?_eq_none_iff.mp e
  exact List.getElem?_eq_none_iff.mpr (by omega)

def RelO : Option V → Option Value → Prop
  | some v, some u => RelV v u
  | none, none => True
  | _, _ => False
def KV {κ : Type} : List (κ × V) → List (κ × Value) → Prop := Paired fun (p : κ × V) (q : κ × Value) => p.1 = q.1 ∧ RelV p.2 q.2

/-- a key of a dict (00_mix): an int or a text -/
def kV : Key → V
  | .inl i => .int i
  | .inr x => .str x

/-- what stands at a tracked address -/
inductive HO where
  /-- a list -/
  | lst (xs : List V)
  /-- a tuple (never changes) -/
  | tup (xs : List V)
  /-- a dict whose keys are ints and texts; one whose keys are tuples of ints and texts (the empty one is both) -/
  | dK (kvs : List (Key × V)) | dT (kvs : List (List Key × V))
  /-- a set of ints: its members, its size -/
  | set (S : Int → Bool) (n : Nat)
  /-- an instance of the class at C, its dict at dx, its attributes -/
  | ins (C dx : Addr) (fs : List (Str × V))
  /-- the dict of the instance at x -/
  | own (x : Addr)
  /-- the dict of an exception -/
  | xd (fs : List (Str × V))
  /-- a bound method, f of x -/
  | met (f x : Addr)
  /-- a range object lo, lo + 1, .. below hi -/
  | rng (lo hi : Int)
  /-- a thing that is known to the object (the script; a dict while a loop walks it): read, never written while it is so -/
  | frz (o : Obj) (u : HO)
  /-- a code object's table -/
  | tbl (ps : Array Value)
  /-- any other thing, by what is true of its one object (a def of one's own: SetO a S n := HO.ext fun h => ..) -/
  | ext (φ : Heap → Prop)

abbrev Hp := Addr → Option HO
def upd (H : Hp) (a : Addr) (o : HO) : Hp := fun b => if b = a then some o else H b
theorem upd_same {H : Hp} {a : Addr} {o : HO} : upd H a o a = some o := by unfold upd; rw [if_pos rfl]
theorem upd_ne {H : Hp} {a b : Addr} {o : HO} (h : b ≠ a) : upd H a o b = H b := by unfold upd; rw [if_neg h]
theorem upd_upd {H : Hp} {a : Addr} {o u : HO} : upd (upd H a o) a u = upd H a u := by
  funext b; unfold upd; split <;> rfl
/-- two objects of different content stand apart -/
theorem ne_of {H : Hp} {a b : Addr} {o u : HO} (h : H a = some o) (h' : H b = some u) (d : o ≠ u) : a ≠ b := by
  intro e; subst e; rw [h] at h'; exact d (Option.some.inj h')
theorem ne_of_none {H : Hp} {a b : Addr} {o : HO} (h : H a = some o) (h' : H b = none) : a ≠ b := by
  intro e; subst e; rw [h] at h'; cases h'

section
variable (P : Program) (w : World)
def ObjOk (H : Hp) (h : Heap) (a : Addr) : HO → Prop
  | .lst xs => xs.length ≤ sizeLine ∧ ∃ (its : List Value) (n : Nat), Vals xs its ∧ h.get? a = some { cls := .type "list", data := .seq its.toArray n }
  | .tup xs => xs.length ≤ sizeLine ∧ ∃ its : List Value, Vals xs its ∧ IsTup h a its.toArray
  | .dK kvs => kvs.length ≤ sizeLine ∧ (a == sysModules) = false ∧ ∃ vs, KV kvs vs ∧ h.DictOf (mixKind P w) a vs
  | .dT kvs => kvs.length ≤ sizeLine ∧ (a == sysModules) = false ∧ ∃ xs : List (List Key × Addr × Value),
      Paired (fun (p : List Key × V) (q : List Key × Addr × Value) => p.1 = q.1 ∧ H q.2.1 = some (.tup (p.1.map kV)) ∧ RelV p.2 q.2.2) kvs xs ∧
      ∃ o es ep, h.get? a = some o ∧ o.ExactDict ∧ o.data = .dict es ep ∧ es.toList = xs.map (entryOfKey (tupleKind (mixKind P w))) ∧ (xs.map (·.1)).Nodup
  | .set S n => h.SetOf (intKind P w) a S n
  | .ins C dx fs => H dx = some (.own a) ∧ fs.length ≤ 1000 ∧ dx ≠ a ∧ h.get? a = some (PySem.W.instObj C dx) ∧
      ∃ mA, h.Ns1 dx mA ∧ (∀ f, RelO (fs.lookup f) (mA f)) ∧ PySem.Within mA (fs.map (·.1))
  | .own _ => ∃ o, h.get? a = some o
  | .xd fs => ∃ mA, h.Ns1 a mA ∧ ∀ f, RelO (fs.lookup f) (mA f)
  | .rng lo hi => ∃ t u v, h.get? a = some { cls := .type "range", data := .fields #[.int lo t, .int hi u, .int 1 v] }
  | .frz o u => h.get? a = some o ∧ ObjOk H h a u
  | .tbl ps => h.get? a = some { cls := .none, data := .fields ps }
  | .met f x => h.get? a = some (PySem.W.methodObj (.ref f) (.ref x))
  | .ext φ => φ h ∧ (∃ o, h.get? a = some o) ∧ ∀ h1 h2 : Heap, φ h1 → (∀ o, h1.get? a = some o → h2.get? a = some o) → φ h2
/-- the abstract heap is held -/
def HOk (H : Hp) (h : Heap) : Prop := ∀ a o, H a = some o → ObjOk P w H h a o
end

section
variable {P : Program} {w : World} {H H' : Hp} {h h' : Heap} {a : Addr} {o : HO}
theorem ObjOk.lt (x : ObjOk P w H h a o) : a < h.objs.size := by
  cases o with
  | lst xs => obtain ⟨_, _, _, _, e⟩ := x; exact Heap.lt_size e
  | tup xs => obtain ⟨_, _, _, p⟩ := x; exact p.lt
  | dK kvs => obtain ⟨_, _, _, _, o, _, _, e, _⟩ := x; exact Heap.lt_size e
  | dT kvs => obtain ⟨_, _, _, _, o, _, _, e, _⟩ := x; exact Heap.lt_size e
  | set S n => obtain ⟨o, _, _, _, e, _⟩ := x; exact Heap.lt_size e
  | ins C dx fs => obtain ⟨_, _, _, e, _⟩ := x; exact Heap.lt_size e
  | own y => obtain ⟨_, e⟩ := x; exact Heap.lt_size e
  | xd fs => obtain ⟨_, ⟨_, _, _, e, _⟩, _⟩ := x; exact Heap.lt_size e
  | rng lo hi => obtain ⟨_, _, _, e⟩ := x; exact Heap.lt_size e
  | frz ob u => obtain ⟨e, _⟩ := x; exact Heap.lt_size e
  | tbl ps => exact Heap.lt_size (show h.get? a = some _ from x)
  | met f y => exact Heap.lt_size (show h.get? a = some _ from x)
  | ext φ => obtain ⟨_, ⟨_, e⟩, _⟩ := x; exact Heap.lt_size e
theorem Paired.mapP {α β : Type} {F G : α → β → Prop} : ∀ {l₁ : List α} {l₂ : List β}, Paired F l₁ l₂ → (∀ a b, F a b → G a b) → Paired G l₁ l₂
  | _, _, .nil, _ => .nil
  | _, _, .cons r t, f => .cons (f _ _ r) (Paired.mapP t f)
theorem Paired.imp' {α β : Type} {F G : α → β → Prop} (f : ∀ a b, F a b → G a b) {l₁ : List α} {l₂ : List β} (r : Paired F l₁ l₂) : Paired G l₁ l₂ := Paired.mapP r f
/-- what an object's description leans on: its own object, its own dict, the tuples -/
theorem ObjOk.stay (x : ObjOk P w H h a o) (k : ∀ b u, (b = a ∨ H b = some (.own a)) → h.get? b = some u → h'.get? b = some u)
    (ho : ∀ b, H b = some (.own a) → H' b = some (.own a)) (ht : ∀ b xs, H b = some (.tup xs) → H' b = some (.tup xs)) : ObjOk P w H' h' a o := by
  induction o with
  | lst xs => obtain ⟨z, its, n, r, e⟩ := x; exact ⟨z, its, n, r, k _ _ (.inl rfl) e⟩
  | tup xs => obtain ⟨z, its, r, ob, e, c⟩ := x; exact ⟨z, its, r, ob, k _ _ (.inl rfl) e, c⟩
  | dK kvs => obtain ⟨z, y, vs, r, ob, es, ep, e, c⟩ := x; exact ⟨z, y, vs, r, ob, es, ep, k _ _ (.inl rfl) e, c⟩
  | dT kvs =>
    obtain ⟨z, y, xs, r, ob, es, ep, e, c⟩ := x
    exact ⟨z, y, xs, Paired.mapP r fun p q z => ⟨z.1, ht _ _ z.2.1, z.2.2⟩, ob, es, ep, k _ _ (.inl rfl) e, c⟩
  | set S n => obtain ⟨ob, es, ep, t, e, c⟩ := x; exact ⟨ob, es, ep, t, k _ _ (.inl rfl) e, c⟩
  | ins C dx fs =>
    obtain ⟨d, z, ne, e, mA, ⟨od, es, ep, e2, c⟩, r⟩ := x
    exact ⟨ho _ d, z, ne, k _ _ (.inl rfl) e, mA, ⟨od, es, ep, k _ _ (.inr d) e2, c⟩, r⟩
  | own y => obtain ⟨ob, e⟩ := x; exact ⟨ob, k _ _ (.inl rfl) e⟩
  | xd fs => obtain ⟨mA, ⟨od, es, ep, e, c⟩, r⟩ := x; exact ⟨mA, ⟨od, es, ep, k _ _ (.inl rfl) e, c⟩, r⟩
  | rng lo hi => obtain ⟨t, u, v, e⟩ := x; exact ⟨t, u, v, k _ _ (.inl rfl) e⟩
  | frz ob u ih => obtain ⟨e, q⟩ := x; exact ⟨k _ _ (.inl rfl) e, ih q⟩
  | tbl ps =>
    have e : h.get? a = some { cls := .none, data := .fields ps } := x
    show h'.get? a = some { cls := .none, data := .fields ps }
    exact k a _ (.inl rfl) e
  | met f y =>
    have e : h.get? a = some (PySem.W.methodObj (.ref f) (.ref y)) := x
    show h'.get? a = some (PySem.W.methodObj (.ref f) (.ref y))
    exact k a _ (.inl rfl) e
  | ext φ => obtain ⟨p, ⟨o, e⟩, st⟩ := x; exact ⟨st _ _ p fun o q => k _ _ (.inl rfl) q, ⟨o, k _ _ (.inl rfl) e⟩, st⟩
theorem HOk.lt (x : HOk P w H h) (e : H a = some o) : a < h.objs.size := (x a o e).lt
theorem HOk.fresh (x : HOk P w H h) (e : h.objs.size ≤ a) : H a = none := by
  cases q : H a with
  | none => rfl
  | some u => exact absurd (Nat.lt_of_lt_of_le (x.lt q) e) (Nat.lt_irrefl _)
/-- every object of the heap is kept -/
theorem HOk.kept (x : HOk P w H h) (k : ∀ b u, h.get? b = some u → h'.get? b = some u) : HOk P w H h' := fun a o e =>
  (x a o e).stay (fun b u _ q => k b u q) (fun _ q => q) fun _ _ q => q
/-- a new object is laid and tracked -/
theorem HOk.laid (x : HOk P w H h) (k : ∀ b u, h.get? b = some u → h'.get? b = some u) (hp : h.objs.size ≤ a) (new : ObjOk P w (upd H a o) h' a o) : HOk P w (upd H a o) h' := fun b u e => by
  have hn := x.fresh hp
  by_cases hb : b = a
  · subst hb; rw [upd_same] at e; cases e; exact new
  · rw [upd_ne hb] at e
    exact (x b u e).stay (fun c v _ q => k c v q) (fun c q => by rw [upd_ne (ne_of_none q hn)]; exact q) fun c xs q => by rw [upd_ne (ne_of_none q hn)]; exact q
end

/-- what may be read as u: it is u, or a known u -/
def Rd (H : Hp) (a : Addr) (u : HO) : Prop := H a = some u ∨ ∃ o, H a = some (.frz o u)
theorem Rd.of {H : Hp} {a : Addr} {u : HO} (h : H a = some u) : Rd H a u := .inl h
theorem Rd.ok {P : Program} {w : World} {H : Hp} {h : Heap} {a : Addr} {u : HO} (r : Rd H a u) (x : HOk P w H h) : ObjOk P w H h a u := by
  rcases r with r | ⟨o, r⟩
  · exact x a u r
  · obtain ⟨_, q⟩ := x a _ r
    exact q
/-- what may be written -/
def Mut : Option HO → Prop
  | some (.lst _) => True
  | some (.dK _) => True
  | some (.dT _) => True
  | some (.set _ _) => True
  | some (.ins _ _ _) => True
  | some (.ext _) => True
  | _ => False
section
variable {P : Program} {w : World} {H : Hp} {h h' : Heap} {x e : Addr} {o' : HO}
/-- the object at e is changed: x itself, or the dict of the instance x -/
theorem HOk.write (ok : HOk P w H h) (mu : Mut (H x)) (he : e = x ∨ H e = some (.own x)) (k : ∀ b u, b ≠ e → h.get? b = some u → h'.get? b = some u) (heo : ∃ u, h'.get? e = some u)
    (new : ObjOk P w (upd H x o') h' x o') : HOk P w (upd H x o') h' := fun b u q => by
  have nown : ∀ c y, H c = some (.own y) → c ≠ x := fun c y r z => by subst z; rw [r] at mu; exact mu
  have ntup : ∀ c xs, H c = some (.tup xs) → c ≠ x := fun c xs r z => by subst z; rw [r] at mu; exact mu
  by_cases hb : b = x
  · subst hb; rw [upd_same] at q; cases q; exact new
  · rw [upd_ne hb] at q
    by_cases hbe : b = e
    · have q' : H b = some (.own x) := by
        rcases he with z | z
        · exact absurd (hbe.trans z) hb
        · rw [hbe]; exact z
      rw [q] at q'; cases q'
      obtain ⟨v, hv⟩ := heo
      exact ⟨v, by rw [hbe]; exact hv⟩
    · refine (ok b u q).stay (fun c v hc r => k c v ?_ r) (fun c r => by rw [upd_ne (nown c b r)]; exact r) fun c xs r => by rw [upd_ne (ntup c xs r)]; exact r
      rcases hc with rfl | hc
      · exact hbe
      · rintro rfl
        rcases he with z | z
        · exact nown c b hc z
        · rw [hc] at z; cases z; exact hb rfl
end

/-! ### kept unless tracked; of the frames at fs (the callers') the slots may change (an exception that passes writes there); of the records at ex (iterators) nothing is said -/
structure Un (fs ex : List Addr) (H H' : Hp) (h h' : Heap) : Prop where
  keep : ∀ b o, h.get? b = some o → H b = none → b ∉ fs → b ∉ ex → h'.get? b = some o
  slot : ∀ b o, h.get? b = some o → H b = none → b ∈ fs → b ∉ ex → ∃ sl, h'.get? b = some { o with slots := sl }
  free : ∀ b o, h.get? b = some o → H b = none → b ∉ ex → H' b = none
  there : ∀ b o, h.get? b = some o → b ∉ ex → ∃ o', h'.get? b = some o'
  tups : ∀ b xs, H b = some (.tup xs) → H' b = some (.tup xs)
  frzs : ∀ b o u, H b = some (.frz o u) → H' b = some (.frz o u)
  tbls : ∀ b ps, H b = some (.tbl ps) → ∃ more, H' b = some (.tbl (ps ++ more))
section
variable {fs fs' ex ex' : List Addr} {H H1 H2 : Hp} {h h1 h2 h' : Heap} {a x e : Addr} {o : HO}
theorem Un.any (u : Un fs ex H H1 h h1) {b : Addr} {ob : Obj} (q : h.get? b = some ob) (n : H b = none) (hx : b ∉ ex) : ∃ sl, h1.get? b = some { ob with slots := sl } := by
  by_cases hb : b ∈ fs
  · exact u.slot b ob q n hb hx
  · exact ⟨ob.slots, u.keep b ob q n hb hx⟩
theorem Un.trans (a : Un fs ex H H1 h h1) (b : Un fs ex H1 H2 h1 h2) : Un fs ex H H2 h h2 where
  keep := fun c ob q n hc hx => b.keep c ob (a.keep c ob q n hc hx) (a.free c ob q n hx) hc hx
  slot := fun c ob q n hc hx => by
    obtain ⟨sl, e1⟩ := a.slot c ob q n hc hx
    obtain ⟨sl', e2⟩ := b.slot c _ e1 (a.free c ob q n hx) hc hx
    exact ⟨sl', e2⟩
  free := fun c ob q n hx => by
    obtain ⟨o', e1⟩ := a.there c ob q hx
    exact b.free c o' e1 (a.free c ob q n hx) hx
  there := fun c ob q hx => by
    obtain ⟨o', e1⟩ := a.there c ob q hx
    exact b.there c o' e1 hx
  tups := fun c xs q => b.tups c xs (a.tups c xs q)
  frzs := fun c ob xs q => b.frzs c ob xs (a.frzs c ob xs q)
  tbls := fun c ps q => by
    obtain ⟨m1, e1⟩ := a.tbls c ps q
    obtain ⟨m2, e2⟩ := b.tbls c _ e1
    exact ⟨m1 ++ m2, by rw [e2, Array.append_assoc]⟩
theorem Un.kept (k : ∀ b u, h.get? b = some u → h'.get? b = some u) : Un fs ex H H h h' :=
  ⟨fun b ob q _ _ _ => k b ob q, fun b ob q _ _ _ => ⟨ob.slots, k b ob q⟩, fun _ _ _ n _ => n, fun b ob q _ => ⟨ob, k b ob q⟩, fun _ _ q => q, fun _ _ _ q => q, fun _ ps q => ⟨#[], by rw [q]; simp⟩⟩
theorem Un.refl : Un fs ex H H h h := Un.kept fun _ _ q => q
theorem Un.laid (k : ∀ b u, h.get? b = some u → h'.get? b = some u) (hp : h.objs.size ≤ a) (hn : H a = none) : Un fs ex H (upd H a o) h h' where
  keep := fun b u q _ _ _ => k b u q
  slot := fun b u q _ _ _ => ⟨u.slots, k b u q⟩
  free := fun b u q n _ => by rw [upd_ne (Nat.ne_of_lt (Nat.lt_of_lt_of_le (Heap.lt_size q) hp))]; exact n
  there := fun b u q _ => ⟨u, k b u q⟩
  tups := fun b xs q => by rw [upd_ne (ne_of_none q hn)]; exact q
  frzs := fun b u xs q => by rw [upd_ne (ne_of_none q hn)]; exact q
  tbls := fun b ps q => ⟨#[], by rw [upd_ne (ne_of_none q hn), q]; simp⟩
theorem Un.write (mu : Mut (H x)) (he : e = x ∨ H e = some (.own x)) (k : ∀ b u, b ≠ e → h.get? b = some u → h'.get? b = some u) (heo : ∃ u, h'.get? e = some u) : Un fs ex H (upd H x o) h h' := by
  have hx : ∀ b, H b = none → b ≠ x := fun b n z => by subst z; rw [n] at mu; exact mu
  have hb : ∀ b, H b = none → b ≠ e := fun b n z => by
    subst z
    rcases he with r | r
    · exact hx b n r
    · rw [n] at r; cases r
  have hm : ∀ b u, H b = some u → ¬ Mut (some u) → b ≠ x := fun b u q nm z => by subst z; rw [q] at mu; exact nm mu
  refine ⟨fun b u q n _ _ => k b u (hb b n) q, fun b u q n _ _ => ⟨u.slots, k b u (hb b n) q⟩, fun b u q n _ => by rw [upd_ne (hx b n)]; exact n, fun b u q _ => ?_,
    fun b xs q => by rw [upd_ne (hm b _ q fun z => z)]; exact q, fun b u xs q => by rw [upd_ne (hm b _ q fun z => z)]; exact q, fun b ps q => ⟨#[], by rw [upd_ne (hm b _ q fun z => z), q]; simp⟩⟩
  by_cases hbe : b = e
  · subst hbe; exact heo
  · exact ⟨u, k b u hbe q⟩
theorem Un.mono (u : Un fs ex H H1 h h1) (hs : ∀ b ∈ fs, b ∈ fs') (hx : ∀ b ∈ ex, b ∈ ex') : Un fs' ex' H H1 h h1 :=
  ⟨fun b ob q n hb he => u.keep b ob q n (fun z => hb (hs b z)) fun z => he (hx b z), fun _ _ q n _ he => u.any q n fun z => he (hx _ z), fun b ob q n he => u.free b ob q n fun z => he (hx b z), fun b ob q he => u.there b ob q fun z => he (hx b z), u.tups, u.frzs, u.tbls⟩
end

/-! ### the heap without what is tracked -/
def trk (h : Heap) (H : Hp) : List Addr := (List.range h.objs.size).filter fun a => (H a).isSome
def hidT (h : Heap) (H : Hp) : Heap := PySem.W.hideAll h (trk h H)
theorem hidT_size (h : Heap) (H : Hp) : (hidT h H).objs.size = h.objs.size := PySem.W.hideAll_size _ _
theorem hidT_get {h : Heap} {H : Hp} {b : Addr} {o : Obj} (e : h.get? b = some o) (n : H b = none) : (hidT h H).get? b = some o :=
  PySem.W.hideAll_get _ e fun hm => by
    have q : (H b).isSome = true := (List.mem_filter.mp hm).2
    rw [n] at q; simp at q
theorem of_hidT {h : Heap} {H : Hp} {b : Addr} {o : Obj} (e : (hidT h H).get? b = some o) : h.get? b = some o ∧ H b = none := by
  have e' : h.get? b = some o := PySem.W.of_hideAll (trk h H) e
  refine ⟨e', ?_⟩
  cases q : H b with
  | none => rfl
  | some x =>
    have hm : b ∈ trk h H := List.mem_filter.mpr ⟨List.mem_range.mpr (Heap.lt_size e'), by simp [q]⟩
    have z : (hidT h H).get? b = none := PySem.W.hideAll_none (trk h H) hm
    rw [z] at e; cases e

/-! ### OpenK's ledger, filled with every new object but one -/
def allNews (g h : Heap) (L : Addr) : List (Addr × Obj) := (List.range h.objs.size).filterMap fun a => if a = L ∨ (g.get? a).isSome = true then none else (h.get? a).map fun o => (a, o)
theorem mem_allNews {g h : Heap} {L a : Addr} {o : Obj} (h1 : a ≠ L) (h2 : g.get? a = none) (h3 : h.get? a = some o) : (a, o) ∈ allNews g h L :=
  List.mem_filterMap.mpr ⟨a, List.mem_range.mpr (Heap.lt_size h3), by simp [h1, h2, h3]⟩
theorem of_mem_allNews {g h : Heap} {L : Addr} {p : Addr × Obj} (hp : p ∈ allNews g h L) : p.1 ≠ L ∧ g.get? p.1 = none ∧ h.get? p.1 = some p.2 := by
  obtain ⟨b, _, e⟩ := List.mem_filterMap.mp hp
  split at e
  · cases e
  · rename_i hn
    cases q : h.get? b with
    | none => rw [q] at e; simp at e
    | some u =>
      rw [q] at e
      simp only [Option.map_some, Option.some.injEq] at e
      subst e
      refine ⟨fun z => hn (.inl z), ?_, q⟩
      show g.get? b = none
      cases r : g.get? b with
      | none => rfl
      | some v => exact (hn (.inr (by simp [r]))).elim
def rest (g h : Heap) (L d : Addr) : List (Addr × Obj) := (allNews g h L).filter fun p => decide (p.1 ≠ d)
theorem rest_ne {g h : Heap} {L d : Addr} : ∀ p ∈ rest g h L d, p.1 ≠ d := fun p hp => of_decide_eq_true (List.mem_filter.mp hp).2
theorem mem_rest {g h : Heap} {L d a : Addr} {o : Obj} (h1 : a ≠ L) (h2 : g.get? a = none) (h3 : h.get? a = some o) (h4 : a ≠ d) : (a, o) ∈ rest g h L d :=
  List.mem_filter.mpr ⟨mem_allNews h1 h2 h3, decide_eq_true h4⟩
theorem news_all {g h : Heap} {L : Addr} : News g L h (allNews g h L) := fun p hp => let ⟨a, b, c⟩ := of_mem_allNews hp; ⟨c, a, b⟩
theorem news_at {g h : Heap} {L d : Addr} {o : Obj} (h1 : d ≠ L) (h2 : g.get? d = none) (h3 : h.get? d = some o) : News g L h ((d, o) :: rest g h L d) := fun p hp => by
  rcases List.mem_cons.mp hp with rfl | hp
  · exact ⟨h3, h1, h2⟩
  · exact news_all p (List.mem_filter.mp hp).1
/-- behind a rule that changed d alone: all else but the frame is kept -/
theorem kept_of_news {g h h' : Heap} {L d : Addr} {m : Str → Option Value} (k : ∀ b o, g.get? b = some o → h.get? b = some o) (F : Fr g L h' m) (N : News g L h' (rest g h L d)) :
    ∀ b o, b ≠ L → b ≠ d → h.get? b = some o → h'.get? b = some o := fun b o h1 h2 e => by
  cases q : g.get? b with
  | some u =>
    have := k b u q
    rw [e] at this; cases this
    exact F.keep b _ q
  | none => exact (N (b, o) (mem_rest h1 q e h2)).1
end L2

namespace L2
open PySem PySem.Spec PyProof.Rows

/-- the module's facts, over the base: the heap at the law's entry without what is tracked there -/
structure Mod (K : PySem.W.Frag) (mg : Str → Option Value) (base : Heap) : Prop where
  kin : K.In base
  glob : base.Ns mainGlobals mg
  blt : ∃ mb, base.Ns builtinsNs mb ∧ ∀ x : Str, x ≠ "__name__" → mb x = bootBuiltins x
  nolimit : base.NoLimit

/-- the context: a def's body (or a comprehension's block) running. base: fixed through the whole law; s₀, H₀: the entry; outer: the frames whose slots others may change (a def's callers); stack: all frames that run;
   ex: iterators that were made ahead of the entry and are walked here (a comprehension's); fn: the names whose cells were made at the entry (a def: all; a comprehension's block: its own); calm: not within an except suite; pn: pins that every state bears; xe: what is wanted of an exception that leaves the code -/
structure Cx where
  prog : Program
  w : World
  K : PySem.W.Frag
  mg : Str → Option Value
  base : Heap
  A : Around
  N : List Str
  s₀ : Shared
  H₀ : Hp
  env : Env
  outer : List Env
  stack : List Env
  ex : List Addr
  fn : Str → Bool
  calm : Bool
  pn : List (Addr × Obj)
  xe : Value → Shared → Prop
/-- the callers' frames -/
def frs (l : List Env) : List Addr := l.filterMap (·.frame)
abbrev Cx.fs (X : Cx) : List Addr := frs X.outer

def Vis (sc : Scope) (x : Str) : Prop := sc.names.lookup x = some .local ∨ sc.names.lookup x = some .cell ∨ sc.names.lookup x = some .free
def Loc (sc : Scope) (x : Str) : Prop := sc.names.lookup x = some .local ∨ sc.names.lookup x = some .cell
def Look (env : Env) (h : Heap) (m : Str → Option Value) (x : Str) (u : Value) : Prop :=
  (env.kindOf x = some .local ∧ m x = some u) ∨ ((env.kindOf x = some .cell ∨ env.kindOf x = some .free) ∧ ∃ c, env.cells.lookup x = some c ∧ h.IsCell c (some u))

structure Cx.Ok (X : Cx) : Prop where
  mod : Mod X.K X.mg X.base
  kind : X.env.scope.kind = .function
  glob : X.env.globals = mainGlobals
  blt : X.env.builtins = builtinsNs
  above : X.s₀.heap.objs.size ≤ X.env.locals
  inj : ∀ x y c, X.env.cells.lookup x = some c → X.env.cells.lookup y = some c → x = y
  has : ∀ x, (X.env.kindOf x = some .cell ∨ X.env.kindOf x = some .free) → ∃ c, X.env.cells.lookup x = some c
  cab : ∀ x c, X.fn x = true → X.env.cells.lookup x = some c → X.s₀.heap.objs.size ≤ c
  hd : X.calm = true → X.A.handled = none
  frames : X.A.frames = some X.stack
  stk : X.stack = X.outer ∨ (X.stack = X.env :: X.outer ∧ X.env.frame = some X.env.locals)
  exf : ∀ b ∈ X.ex, b ≠ X.env.locals ∧ ∀ x c, X.env.cells.lookup x = some c → c ≠ b
  bs : ∀ b o, X.base.get? b = some o → X.s₀.heap.get? b = some o ∧ X.H₀ b = none
  bsz : X.base.objs.size ≤ X.s₀.heap.objs.size
  noex : ∀ b o, X.base.get? b = some o → b ∉ X.ex
  exfs : ∀ b ∈ X.ex, b ∉ X.fs
  funs : X.s₀.heap.FunFrames X.base X.outer
  frf : ∀ b ∈ X.fs, X.H₀ b = none

structure Inv (X : Cx) (pins : List (Addr × Obj)) (σ : List (Option V)) (H : Hp) (s : Shared) : Prop where
  ok : X.Ok
  os : s.os = X.s₀.os
  bare : AllBare s.gens
  base : Un X.fs X.ex X.H₀ H X.s₀.heap s.heap
  loc : ∃ m, s.heap.Ns X.env.locals m ∧ ∀ (i : Nat) (x : Str) (v : V), X.N[i]? = some x → σ[i]? = some (some v) → Vis X.env.scope x → ∃ u, RelV v u ∧ Look X.env s.heap m x u
  cell : ∀ x c, X.env.cells.lookup x = some c → ∃ v, s.heap.IsCell c v
  free : H X.env.locals = none
  freeC : ∀ x c, X.env.cells.lookup x = some c → H c = none
  pin : ∀ p ∈ X.pn ++ pins, s.heap.get? p.1 = some p.2 ∧ H p.1 = none ∧ p.1 ≠ X.env.locals ∧ p.1 ∉ X.fs ∧ ∀ v, p.2.data ≠ .cell v
  hok : HOk X.prog X.w H s.heap
  len : σ.length = X.N.length

section
variable {X : Cx} {pins : List (Addr × Obj)} {σ : List (Option V)} {H H' : Hp} {s : Shared} {h' : Heap}

theorem Cx.Ok.nofr (ok : X.Ok) {b : Addr} {o : Obj} (e : X.base.get? b = some o) : b ∉ X.fs := fun hb => by
  have := (ok.funs.mem hb).1
  rw [e] at this; cases this
theorem Inv.bs (I : Inv X pins σ H s) : ∀ b o, X.base.get? b = some o → s.heap.get? b = some o ∧ H b = none := fun b o e =>
  ⟨I.base.keep b o (I.ok.bs b o e).1 (I.ok.bs b o e).2 (I.ok.nofr e) (I.ok.noex b o e), I.base.free b o (I.ok.bs b o e).1 (I.ok.bs b o e).2 (I.ok.noex b o e)⟩
theorem Inv.bk (I : Inv X pins σ H s) : ∀ b o, X.base.get? b = some o → s.heap.get? b = some o := fun b o e => (I.bs b o e).1
theorem Inv.mod (I : Inv X pins σ H s) : Mod X.K X.mg X.base := I.ok.mod
theorem Inv.kIn (I : Inv X pins σ H s) : X.K.In s.heap := I.ok.mod.kin.keeps I.bk
theorem Inv.nolimit (I : Inv X pins σ H s) : s.heap.NoLimit := I.ok.mod.nolimit.keeps I.bk
/-- the frame over the base: for OpenK's rules (K.In X.base is I.mod.kin) -/
theorem Inv.fr (I : Inv X pins σ H s) : ∃ m, Fr X.base X.env.locals s.heap m :=
  let ⟨m, hn, _⟩ := I.loc
  ⟨m, hn, I.bk, Nat.le_trans I.ok.bsz I.ok.above⟩
theorem Inv.lt (I : Inv X pins σ H s) : X.env.locals < s.heap.objs.size := let ⟨_, hn, _⟩ := I.loc; hn.lt
theorem Inv.sz (I : Inv X pins σ H s) : X.s₀.heap.objs.size ≤ s.heap.objs.size := Nat.le_trans I.ok.above (Nat.le_of_lt I.lt)
theorem Inv.nofs (I : Inv X pins σ H s) {a : Addr} (h : s.heap.objs.size ≤ a) : a ∉ X.fs := fun hb => by
  obtain ⟨_, o, ho, _⟩ := I.ok.funs.mem hb
  exact absurd (Nat.lt_of_lt_of_le (Heap.lt_size ho) (Nat.le_trans I.sz h)) (Nat.lt_irrefl _)
theorem Inv.cne (I : Inv X pins σ H s) : ∀ x c, X.env.cells.lookup x = some c → c ≠ X.env.locals := fun x c e z => by
  obtain ⟨v, o, ho, hd⟩ := I.cell x c e
  obtain ⟨m, ⟨o', es, ep, ho', hd', _⟩, _⟩ := I.loc
  rw [z, ho'] at ho; cases ho; rw [hd'] at hd; cases hd
theorem Inv.funs (I : Inv X pins σ H s) : s.heap.FunFrames X.base X.outer := by
  have all : ∀ (l : List Env), (∀ b ∈ frs l, b ∈ X.fs) → X.s₀.heap.FunFrames X.base l → s.heap.FunFrames X.base l := by
    intro l
    induction l with
    | nil => intro _ _; trivial
    | cons env r ih =>
      intro hs hl
      obtain ⟨hk, ⟨L, o, hf, hn, ho, hd⟩, hr⟩ := hl
      have hL : L ∈ X.fs := hs L (by unfold frs; rw [List.filterMap_cons, hf]; exact List.mem_cons_self)
      obtain ⟨sl, e⟩ := I.base.slot L o ho (I.ok.frf L hL) hL fun z => I.ok.exfs L z hL
      exact ⟨hk, ⟨L, _, hf, hn, e, hd⟩, ih (fun b hb => hs b (by unfold frs; rw [List.filterMap_cons, hf]; exact List.mem_cons_of_mem _ hb)) hr⟩
  exact all X.outer (fun _ hb => hb) I.ok.funs

/-- the frames that run, for a call -/
theorem Inv.stack (I : Inv X pins σ H s) : s.heap.FunFrames X.base X.stack := by
  rcases I.ok.stk with e | ⟨e, hf⟩
  · rw [e]; exact I.funs
  · rw [e]
    obtain ⟨m, hn, _⟩ := I.loc
    refine .cons (by rw [I.ok.kind]; decide) hf hn ?_ I.funs
    exact Heap.get?_none_of_le (Nat.le_trans I.ok.bsz I.ok.above)
theorem Inv.stkSub (I : Inv X pins σ H s) : ∀ b ∈ frs X.stack, b ∈ X.env.locals :: X.fs := fun b hb => by
  rcases I.ok.stk with e | ⟨e, hf⟩
  · rw [e] at hb; exact List.mem_cons_of_mem _ hb
  · rw [e] at hb
    unfold frs at hb
    rw [List.filterMap_cons, hf] at hb
    exact hb
theorem Inv.stkFree (I : Inv X pins σ H s) : ∀ b ∈ frs X.stack, H b = none := fun b hb => by
  rcases List.mem_cons.mp (I.stkSub b hb) with e | hb
  · rw [e]; exact I.free
  · obtain ⟨_, o, ho, _⟩ := I.ok.funs.mem hb
    exact I.base.free b o ho (I.ok.frf b hb) fun z => I.ok.exfs b z hb

/-- THE STEP: the untracked objects but the frame and the records at ch are kept (the callers' frames up to slots), the frame's map is kept, the new abstract heap is held -/
theorem Inv.step {g' : Array GenState} {t' : Nat} {d' : Drawn} {ch : List Addr} (I : Inv X pins σ H s)
    (hch : ∀ b ∈ ch, (b ∈ X.ex ∨ X.s₀.heap.objs.size ≤ b) ∧ b ≠ X.env.locals ∧ (∀ x c, X.env.cells.lookup x = some c → c ≠ b) ∧ ∀ p ∈ X.pn ++ pins, p.1 ≠ b)
    (keep : ∀ b o, b ≠ X.env.locals → b ∉ X.fs → b ∉ ch → s.heap.get? b = some o → H b = none → h'.get? b = some o)
    (slot : ∀ b o, b ≠ X.env.locals → b ∈ X.fs → b ∉ ch → s.heap.get? b = some o → H b = none → ∃ sl, h'.get? b = some { o with slots := sl }) (free : ∀ b o, b ∉ ch → s.heap.get? b = some o → H b = none → H' b = none)
    (there : ∀ b o, b ∉ ch → s.heap.get? b = some o → ∃ o', h'.get? b = some o')
    (tups : ∀ b xs, H b = some (.tup xs) → H' b = some (.tup xs)) (frzs : ∀ b o u, H b = some (.frz o u) → H' b = some (.frz o u)) (tbls : ∀ b ps, H b = some (.tbl ps) → ∃ more, H' b = some (.tbl (ps ++ more)))
    (ns : ∀ m, s.heap.Ns X.env.locals m → h'.Ns X.env.locals m) (hok : HOk X.prog X.w H' h') (hg : AllBare g') :
    Inv X pins σ H' { s with heap := h', gens := g', drawn := d', toks := t' } := by
  have neL : ∀ b o, X.s₀.heap.get? b = some o → b ≠ X.env.locals := fun b o e => Nat.ne_of_lt (Nat.lt_of_lt_of_le (Heap.lt_size e) I.ok.above)
  have neC : ∀ b o, X.s₀.heap.get? b = some o → b ∉ X.ex → b ∉ ch := fun b o e hx hb => by
    rcases (hch b hb).1 with z | z
    · exact hx z
    · exact absurd (Nat.lt_of_lt_of_le (Heap.lt_size e) z) (Nat.lt_irrefl _)
  have cellK : ∀ x c, X.env.cells.lookup x = some c → ∀ v, s.heap.IsCell c v → h'.IsCell c v := fun x c e v ⟨o, ho, hd⟩ => by
    have nch : c ∉ ch := fun z => (hch c z).2.2.1 x c e rfl
    by_cases hc : c ∈ X.fs
    · obtain ⟨sl, q⟩ := slot c o (I.cne x c e) hc nch ho (I.freeC x c e)
      exact ⟨_, q, hd⟩
    · exact ⟨o, keep c o (I.cne x c e) hc nch ho (I.freeC x c e), hd⟩
  refine ⟨I.ok, I.os, hg, ⟨fun b o e n hb hx => ?_, fun b o e n hb hx => ?_, fun b o e n hx => ?_, fun b o e hx => ?_, fun b xs e => tups b xs (I.base.tups b xs e), fun b o xs e => frzs b o xs (I.base.frzs b o xs e), fun b ps e => ?_⟩, ?_, fun x c e => ?_, ?_, fun x c e => ?_, fun p hp => ?_, hok, I.len⟩
  · exact keep b o (neL b o e) hb (neC b o e hx) (I.base.keep b o e n hb hx) (I.base.free b o e n hx)
  · obtain ⟨sl, e1⟩ := I.base.slot b o e n hb hx
    obtain ⟨sl', e2⟩ := slot b _ (neL b o e) hb (neC b o e hx) e1 (I.base.free b o e n hx)
    exact ⟨sl', e2⟩
  · obtain ⟨o', e1⟩ := I.base.there b o e hx
    exact free b o' (neC b o e hx) e1 (I.base.free b o e n hx)
  · obtain ⟨o', e1⟩ := I.base.there b o e hx
    exact there b o' (neC b o e hx) e1
  · obtain ⟨m1, e1⟩ := I.base.tbls b ps e
    obtain ⟨m2, e2⟩ := tbls b _ e1
    exact ⟨m1 ++ m2, by rw [e2, Array.append_assoc]⟩
  · obtain ⟨m, hn, hl⟩ := I.loc
    refine ⟨m, ns m hn, fun i x v e1 e2 e3 => ?_⟩
    obtain ⟨u, r, l⟩ := hl i x v e1 e2 e3
    refine ⟨u, r, ?_⟩
    rcases l with l | ⟨k, c, e, z⟩
    · exact .inl l
    · exact .inr ⟨k, c, e, cellK x c e _ z⟩
  · obtain ⟨v, z⟩ := I.cell x c e
    exact ⟨v, cellK x c e v z⟩
  · obtain ⟨m, ⟨o, _, _, ho, _⟩, _⟩ := I.loc
    exact free _ o (fun z => (hch _ z).2.1 rfl) ho I.free
  · obtain ⟨v, o, ho, hd⟩ := I.cell x c e
    exact free c o (fun z => (hch c z).2.2.1 x c e rfl) ho (I.freeC x c e)
  · obtain ⟨e, n, ne, nf, d⟩ := I.pin p hp
    have nch : p.1 ∉ ch := fun z => (hch p.1 z).2.2.2 p hp rfl
    exact ⟨keep p.1 p.2 ne nf nch e n, free p.1 p.2 nch e n, ne, nf, d⟩
/-- .. where the frame's own object is kept too -/
theorem Inv.un {t' : Nat} (I : Inv X pins σ H s) (u : Un X.fs [] H H' s.heap h') (hok : HOk X.prog X.w H' h') : Inv X pins σ H' { s with heap := h', toks := t' } := by
  obtain ⟨m, ⟨o, es, ep, ho, r⟩, _⟩ := id I.loc
  obtain ⟨sl, hL⟩ := u.any ho I.free (by simp)
  exact I.step (g' := s.gens) (d' := s.drawn) (ch := []) (fun _ z => nomatch z) (fun b o _ hb _ e n => u.keep b o e n hb (by simp)) (fun b o _ hb _ e n => u.slot b o e n hb (by simp)) (fun b o _ e n => u.free b o e n (by simp)) (fun b o _ e => u.there b o e (by simp)) u.tups u.frzs u.tbls (fun m' hm => by
    obtain ⟨o', es', ep', ho', r'⟩ := hm
    rw [ho] at ho'; cases ho'
    exact ⟨_, es', ep', hL, r'⟩) hok I.bare
/-- behind a call (or a comprehension's block): the slots of this frame may have changed too, the records at ch may have turned -/
theorem Inv.call {g' : Array GenState} {t' : Nat} {d' : Drawn} {ch : List Addr} (I : Inv X pins σ H s) (u : Un (frs X.stack) ch H H' s.heap h') (hok : HOk X.prog X.w H' h') (hg : AllBare g')
    (hch : ∀ b ∈ ch, (b ∈ X.ex ∨ X.s₀.heap.objs.size ≤ b) ∧ b ≠ X.env.locals ∧ (∀ x c, X.env.cells.lookup x = some c → c ≠ b) ∧ ∀ p ∈ X.pn ++ pins, p.1 ≠ b) :
    Inv X pins σ H' { s with heap := h', gens := g', drawn := d', toks := t' } := by
  obtain ⟨m, ⟨o, es, ep, ho, r⟩, _⟩ := id I.loc
  obtain ⟨sl, hL⟩ := u.any ho I.free fun z => (hch _ z).2.1 rfl
  exact I.step (ch := ch) hch (fun b o hL hb hc e n => u.keep b o e n (fun z => (List.mem_cons.mp (I.stkSub b z)).elim hL hb) hc) (fun b o _ _ hc e n => u.any e n hc) (fun b o hc e n => u.free b o e n hc) (fun b o hc e => u.there b o e hc) u.tups u.frzs u.tbls (fun m' hm => by
    obtain ⟨o', es', ep', ho', r'⟩ := hm
    rw [ho] at ho'; cases ho'
    exact ⟨_, es', ep', hL, r'⟩) hok hg
/-- an untracked record of ours (an iterator) has turned -/
theorem Inv.turned {t' : Nat} {it : Addr} (I : Inv X pins σ H s) (k : ∀ b o, b ≠ it → s.heap.get? b = some o → h'.get? b = some o) (hn : H it = none) (hL : it ≠ X.env.locals)
    (h1 : it ∈ X.ex ∨ X.s₀.heap.objs.size ≤ it) (h2 : ∀ x c, X.env.cells.lookup x = some c → c ≠ it) (h3 : ∀ p ∈ X.pn ++ pins, p.1 ≠ it) : Inv X pins σ H { s with heap := h', toks := t' } := by
  have nit : ∀ b u, H b = some u → b ≠ it := fun b u e z => by rw [z, hn] at e; cases e
  refine I.step (g' := s.gens) (d' := s.drawn) (ch := [it]) (fun b hb => ?_) (fun b o _ _ hc e _ => k b o (fun z => hc (by simp [z])) e) (fun b o _ _ hc e _ => ⟨o.slots, k b o (fun z => hc (by simp [z])) e⟩) (fun _ _ _ _ n => n)
    (fun b o hc e => ⟨o, k b o (fun z => hc (by simp [z])) e⟩) (fun _ _ e => e) (fun _ _ _ e => e) (fun b ps e => ⟨#[], by rw [e]; simp⟩) (fun m hm => ?_) (fun b u e => ?_) I.bare
  · have e : b = it := by simpa using hb
    subst e
    exact ⟨h1, hL, h2, h3⟩
  · obtain ⟨o, es, ep, ho, r⟩ := hm
    exact ⟨o, es, ep, k _ o (Ne.symm hL) ho, r⟩
  · refine (I.hok b u e).stay (fun c v hc q => k c v ?_ q) (fun _ q => q) fun _ _ q => q
    rcases hc with z | z
    · rw [z]; exact nit b u e
    · exact nit c _ z
theorem Inv.tok (I : Inv X pins σ H s) (t : Nat) : Inv X pins σ H { s with toks := t } := I.un (h' := s.heap) (t' := t) Un.refl I.hok
/-- all objects kept -/
theorem Inv.kept {t' : Nat} (I : Inv X pins σ H s) (k : ∀ b u, s.heap.get? b = some u → h'.get? b = some u) : Inv X pins σ H { s with heap := h', toks := t' } := I.un (Un.kept k) (I.hok.kept k)
/-- a new object laid and tracked -/
theorem Inv.laid {a : Addr} {o : HO} {t' : Nat} (I : Inv X pins σ H s) (k : ∀ b u, s.heap.get? b = some u → h'.get? b = some u) (hp : s.heap.objs.size ≤ a) (new : ObjOk X.prog X.w (upd H a o) h' a o) :
    Inv X pins σ (upd H a o) { s with heap := h', toks := t' } := I.un (Un.laid k hp (I.hok.fresh hp)) (I.hok.laid k hp new)
/-- an object written -/
theorem Inv.write {x e : Addr} {o : HO} {t' : Nat} (I : Inv X pins σ H s) (mu : Mut (H x)) (he : e = x ∨ H e = some (.own x)) (k : ∀ b u, b ≠ e → s.heap.get? b = some u → h'.get? b = some u) (heo : ∃ u, h'.get? e = some u)
    (new : ObjOk X.prog X.w (upd H x o) h' x o) : Inv X pins σ (upd H x o) { s with heap := h', toks := t' } := I.un (Un.write mu he k heo) (I.hok.write mu he k heo new)
/-- forgetting slots, pins -/
theorem Inv.weak {σ' : List (Option V)} (I : Inv X pins σ H s) (hl : σ'.length = σ.length) (w : ∀ (i : Nat) v, σ'[i]? = some (some v) → σ[i]? = some (some v)) : Inv X pins σ' H s :=
  ⟨I.ok, I.os, I.bare, I.base, let ⟨m, hn, hl'⟩ := I.loc; ⟨m, hn, fun i x v e1 e2 e3 => hl' i x v e1 (w i v e2) e3⟩, I.cell, I.free, I.freeC, I.pin, I.hok, hl.trans I.len⟩
theorem Inv.pins_of {pins' : List (Addr × Obj)} (I : Inv X pins σ H s) (h : ∀ p ∈ pins', s.heap.get? p.1 = some p.2 ∧ H p.1 = none ∧ p.1 ≠ X.env.locals ∧ p.1 ∉ X.fs ∧ ∀ v, p.2.data ≠ .cell v) : Inv X pins' σ H s :=
  ⟨I.ok, I.os, I.bare, I.base, I.loc, I.cell, I.free, I.freeC, fun p hp => (List.mem_append.mp hp).elim (fun z => I.pin p (List.mem_append_left _ z)) (h p), I.hok, I.len⟩

theorem nodup_ix {N : List Str} (hN : N.Nodup) {i j : Nat} {x : Str} (a : N[i]? = some x) (b : N[j]? = some x) : i = j := by
  obtain ⟨h1, e1⟩ := List.getElem?_eq_some_iff.mp a
  obtain ⟨h2, e2⟩ := List.getElem?_eq_some_iff.mp b
  exact (List.getElem_inj hN).mp (e1.trans e2.symm)

/-- a name is stored; what changed -/
theorem store_ok2 {M : Model} {A : Around} {E : Value → Shared → Prop} {i : Nat} {x : Str} {v : V} {u : Value} {Q : Unit → Shared → Prop} (I : Inv X pins σ H s) (hN : X.N.Nodup) (hi : X.N[i]? = some x) (hx : Loc X.env.scope x) (r : RelV v u)
    (h : ∀ s', Inv X pins (σ.set i (some v)) H s' → (∃ a, Heap.SameBut a s.heap s'.heap ∧ (a = X.env.locals ∨ X.env.cells.lookup x = some a)) → Q () s') (hf : X.fn x = true ∨ X.env.scope.names.lookup x = some .local := by first | exact .inl rfl | exact .inr rfl | assumption) : wpAny M A (storeName X.env x u) Q E s := by
  obtain ⟨m, hn, hl⟩ := id I.loc
  have hcls : (X.env.scope.kind == .class || (X.env.scope.kind == .module && X.env.locals != X.env.globals)) = false := by rw [I.ok.kind]; rfl
  have hiσ : i < σ.length := by rw [I.len]; exact (List.getElem?_eq_some_iff.mp hi).1
  have cne := I.cne
  have tracked : ∀ {a : Addr} {h' : Heap}, (∃ o, s.heap.get? a = some o ∧ H a = none) → Heap.SameBut a s.heap h' → HOk X.prog X.w H h' := fun {a h'} ha hs b ob e => by
    obtain ⟨_, _, hfree⟩ := ha
    refine (I.hok b ob e).stay (fun c w' hc q => (hs.2 c ?_).trans q) (fun _ q => q) fun _ _ q => q
    rintro rfl
    rcases hc with rfl | hc
    · rw [hfree] at e; cases e
    · rw [hfree] at hc; cases hc
  rcases hx with hk | hk
  · refine wpAny_storeName_local hk hn (fun h' hn' hs => ?_) hcls
    obtain ⟨oL, _, _, hoL, _⟩ := id hn
    refine h _ ⟨I.ok, I.os, I.bare, ⟨fun b o e n hb hx => ?_, fun b o e n hb hx => ?_, I.base.free, fun b o e hx => ?_, I.base.tups, I.base.frzs, I.base.tbls⟩, ⟨_, hn', fun j y v' e1 e2 e3 => ?_⟩, fun y c e => ?_, I.free, I.freeC, fun p hp => ?_, tracked ⟨oL, hoL, I.free⟩ hs, by simpa using I.len⟩ ⟨_, hs, .inl rfl⟩
    · exact (hs.2 b (Nat.ne_of_lt (Nat.lt_of_lt_of_le (Heap.lt_size e) I.ok.above))).trans (I.base.keep b o e n hb hx)
    · obtain ⟨sl, e1⟩ := I.base.slot b o e n hb hx
      exact ⟨sl, (hs.2 b (Nat.ne_of_lt (Nat.lt_of_lt_of_le (Heap.lt_size e) I.ok.above))).trans e1⟩
    · obtain ⟨o', e1⟩ := I.base.there b o e hx
      exact ⟨o', (hs.2 b (Nat.ne_of_lt (Nat.lt_of_lt_of_le (Heap.lt_size e) I.ok.above))).trans e1⟩
    · by_cases hj : j = i
      · subst hj
        rw [hi] at e1; cases e1
        rw [List.getElem?_set_self hiσ] at e2
        cases e2
        exact ⟨u, r, .inl ⟨hk, by simp⟩⟩
      · rw [List.getElem?_set_ne (Ne.symm hj)] at e2
        obtain ⟨u', r', q⟩ := hl j y v' e1 e2 e3
        refine ⟨u', r', ?_⟩
        rcases q with ⟨k, e⟩ | ⟨k, c, e, z⟩
        · refine .inl ⟨k, ?_⟩
          have : y ≠ x := fun e => hj (nodup_ix hN e1 (e ▸ hi))
          simp [this, e]
        · exact .inr ⟨k, c, e, z.sameBut hs (cne y c e)⟩
    · obtain ⟨w', z⟩ := I.cell y c e
      exact ⟨w', z.sameBut hs (cne y c e)⟩
    · obtain ⟨e, n, ne, nf, d⟩ := I.pin p hp
      exact ⟨(hs.2 p.1 ne).trans e, n, ne, nf, d⟩
  · have hfn : X.fn x = true := by
      rcases hf with z | z
      · exact z
      · rw [z] at hk; cases hk
    obtain ⟨c, hc⟩ := I.ok.has x (.inl hk)
    obtain ⟨w', z⟩ := I.cell x c hc
    refine wpAny_storeName_cell I.ok.kind hk hc z (fun h' hc' hs => ?_)
    obtain ⟨oc, hoc, hocd⟩ := id z
    refine h { s with heap := h' } ⟨I.ok, I.os, I.bare, ⟨fun b o e n hb hx => ?_, fun b o e n hb hx => ?_, I.base.free, fun b o e hx => ?_, I.base.tups, I.base.frzs, I.base.tbls⟩, ⟨m, hn.sameBut hs (Ne.symm (cne x c hc)), fun j y v' e1 e2 e3 => ?_⟩, fun y c' e => ?_, I.free, I.freeC, fun p hp => ?_, tracked ⟨oc, hoc, I.freeC x c hc⟩ hs, by simpa using I.len⟩ ⟨c, hs, .inr hc⟩
    · exact (hs.2 b (Nat.ne_of_lt (Nat.lt_of_lt_of_le (Heap.lt_size e) (I.ok.cab x c hfn hc)))).trans (I.base.keep b o e n hb hx)
    · obtain ⟨sl, e1⟩ := I.base.slot b o e n hb hx
      exact ⟨sl, (hs.2 b (Nat.ne_of_lt (Nat.lt_of_lt_of_le (Heap.lt_size e) (I.ok.cab x c hfn hc)))).trans e1⟩
    · obtain ⟨o', e1⟩ := I.base.there b o e hx
      exact ⟨o', (hs.2 b (Nat.ne_of_lt (Nat.lt_of_lt_of_le (Heap.lt_size e) (I.ok.cab x c hfn hc)))).trans e1⟩
    · by_cases hj : j = i
      · subst hj
        rw [hi] at e1; cases e1
        rw [List.getElem?_set_self hiσ] at e2
        cases e2
        exact ⟨u, r, .inr ⟨.inl hk, c, hc, hc'⟩⟩
      · rw [List.getElem?_set_ne (Ne.symm hj)] at e2
        obtain ⟨u', r', q⟩ := hl j y v' e1 e2 e3
        refine ⟨u', r', ?_⟩
        rcases q with q | ⟨k, c', e, z'⟩
        · exact .inl q
        · refine .inr ⟨k, c', e, z'.sameBut hs ?_⟩
          rintro rfl
          exact hj (nodup_ix hN e1 (I.ok.inj _ _ _ e hc ▸ hi))
    · by_cases hcc : c' = c
      · subst hcc; exact ⟨_, hc'⟩
      · obtain ⟨w2, z2⟩ := I.cell y c' e
        exact ⟨w2, z2.sameBut hs hcc⟩
    · obtain ⟨e, n, ne, nf, d⟩ := I.pin p hp
      refine ⟨(hs.2 p.1 ?_).trans e, n, ne, nf, d⟩
      intro q
      rw [q, hoc] at e
      have q' : oc = p.2 := Option.some.inj e
      exact d w' (by rw [← q']; exact hocd)
theorem store_ok {M : Model} {A : Around} {E : Value → Shared → Prop} {i : Nat} {x : Str} {v : V} {u : Value} {Q : Unit → Shared → Prop} (I : Inv X pins σ H s) (hN : X.N.Nodup) (hi : X.N[i]? = some x) (hx : Loc X.env.scope x) (r : RelV v u)
    (h : ∀ s', Inv X pins (σ.set i (some v)) H s' → Q () s') (hf : X.fn x = true ∨ X.env.scope.names.lookup x = some .local := by first | exact .inl rfl | exact .inr rfl | assumption) : wpAny M A (storeName X.env x u) Q E s :=
  store_ok2 I hN hi hx r (fun s' I' _ => h s' I') hf
/-- behind a call or a block, the state as it is -/
theorem Inv.call' {s' : Shared} {ch : List Addr} (I : Inv X pins σ H s) (ho : s'.os = s.os) (u : Un (frs X.stack) ch H H' s.heap s'.heap) (hok : HOk X.prog X.w H' s'.heap) (hg : AllBare s'.gens)
    (hch : ∀ b ∈ ch, (b ∈ X.ex ∨ X.s₀.heap.objs.size ≤ b) ∧ b ≠ X.env.locals ∧ (∀ x c, X.env.cells.lookup x = some c → c ≠ b) ∧ ∀ p ∈ X.pn ++ pins, p.1 ≠ b) : Inv X pins σ H' s' := by
  obtain ⟨h', g', d', t', o'⟩ := s'
  have e : o' = s.os := ho
  subst e
  exact I.call (g' := g') (t' := t') (d' := d') u hok hg hch
end

/-! ### the judgements -/
/-- an exception: its class, its own dict's address (where it has one), the abstract heap behind it -/
abbrev XK := Value → Option Addr → Hp → Prop
abbrev St := List (Option V)
abbrev VK := V → Hp → Prop
/-- an expression's reading; a test's; an argument list's -/
abbrev TE := St → Hp → VK → Prop
abbrev TT := St → Hp → (Bool → Hp → Prop) → Prop
abbrev TA := St → Hp → (List V → Hp → Prop) → Prop
/-- what is wanted behind a statement -/
structure Ends where
  nx : St → Hp → Prop
  rt : VK
  bk : St → Hp → Prop := fun _ _ => False
  ct : St → Hp → Prop := fun _ _ => False
abbrev TS := Ends → St → Hp → Prop

def EP (X : Cx) (pins : List (Addr × Obj)) (σ : St) (Q : VK) (u : Value) (s' : Shared) : Prop := ∃ v H', Inv X pins σ H' s' ∧ RelV v u ∧ Q v H'
def TP (X : Cx) (pins : List (Addr × Obj)) (σ : St) (Q : Bool → Hp → Prop) (b : Bool) (s' : Shared) : Prop := ∃ H', Inv X pins σ H' s' ∧ Q b H'
def AP (X : Cx) (pins : List (Addr × Obj)) (σ : St) (Q : List V → Hp → Prop) (us : List Value) (s' : Shared) : Prop := ∃ vs H', Inv X pins σ H' s' ∧ Vals vs us ∧ Q vs H'
def SP (X : Cx) (pins : List (Addr × Obj)) (D : Ends) (f : Flow) (s' : Shared) : Prop :=
  match f with
  | .next => ∃ σ' H', Inv X pins σ' H' s' ∧ D.nx σ' H'
  | .brk => ∃ σ' H', Inv X pins σ' H' s' ∧ D.bk σ' H'
  | .cont => ∃ σ' H', Inv X pins σ' H' s' ∧ D.ct σ' H'
  | .ret u => ∃ v σ' H', Inv X pins σ' H' s' ∧ RelV v u ∧ D.rt v H'

def PE (X : Cx) (e : Expr) (t : TE) : Prop :=
  ∀ (pins : List (Addr × Obj)) (s : Shared) (σ : St) (H : Hp) (Q : VK), Inv X pins σ H s → t σ H Q → wpAny (model X.prog X.w) X.A (eval e X.env) (EP X pins σ Q) X.xe s
def PT (X : Cx) (e : Expr) (t : TT) : Prop :=
  ∀ (pins : List (Addr × Obj)) (s : Shared) (σ : St) (H : Hp) (Q : Bool → Hp → Prop), Inv X pins σ H s → t σ H Q → wpAny (model X.prog X.w) X.A (isTrue e X.env (eval e X.env)) (TP X pins σ Q) X.xe s
/-- a test whatever its 'whole' is (and, or) -/
def PW (X : Cx) (e : Expr) (t : TT) : Prop :=
  ∀ (whole : Sem Value) (pins : List (Addr × Obj)) (s : Shared) (σ : St) (H : Hp) (Q : Bool → Hp → Prop), Inv X pins σ H s → t σ H Q → wpAny (model X.prog X.w) X.A (isTrue e X.env whole) (TP X pins σ Q) X.xe s
theorem PW.pt {X : Cx} {e : Expr} {t : TT} (h : PW X e t) : PT X e t := h _
/-- an argument list (no star), from the left -/
def PA (X : Cx) (es : List Expr) (t : TA) : Prop :=
  ∀ (pos : Pos) (pins : List (Addr × Obj)) (s : Shared) (σ : St) (H : Hp) (Q : List V → Hp → Prop), Inv X pins σ H s → t σ H Q → wpAny (model X.prog X.w) X.A (spliced (backTo pos (starEach es X.env))) (AP X pins σ Q) X.xe s
def PS (X : Cx) (st : Stmt) (t : TS) : Prop :=
  ∀ (pins : List (Addr × Obj)) (s : Shared) (σ : St) (H : Hp) (D : Ends), Inv X pins σ H s → t D σ H → wpAny (model X.prog X.w) X.A (exec st X.env) (SP X pins D) X.xe s
def PSs (X : Cx) (st : List Stmt) (t : TS) : Prop :=
  ∀ (pins : List (Addr × Obj)) (s : Shared) (σ : St) (H : Hp) (D : Ends), Inv X pins σ H s → t D σ H → wpAny (model X.prog X.w) X.A (execs st X.env) (SP X pins D) X.xe s
/-- weaken the end -/
theorem thn {α : Type} {t : Sem α} {Q Q' : α → Shared → Prop} {M : Model} {A : Around} {E : Value → Shared → Prop} {s : Shared} (h : wpAny M A t Q E s) (hQ : ∀ a s, Q a s → Q' a s) : wpAny M A t Q' E s := wpAny_mono h hQ fun _ _ x => x
end L2

namespace L2
open PySem PySem.Spec PyProof.Rows
section
variable {X : Cx}

/-- two expressions in a row -/
theorem bin {a b : Expr} {ta tb : TE} (ha : PE X a ta) (hb : PE X b tb) {pins : List (Addr × Obj)} {s : Shared} {σ : St} {H : Hp} {R : V → V → Hp → Prop} (I : Inv X pins σ H s) (h : ta σ H fun x H1 => tb σ H1 fun y H2 => R x y H2)
    {α : Type} {Q : α → Shared → Prop} {f : Value → Value → Sem α}
    (hf : ∀ v u s2 x y H2, Inv X pins σ H2 s2 → RelV x v → RelV y u → R x y H2 → wpAny (model X.prog X.w) X.A (f v u) Q X.xe s2) :
    wpAny (model X.prog X.w) X.A (eval a X.env) (fun v s₁ => wpAny (model X.prog X.w) X.A (eval b X.env) (fun u s₂ => wpAny (model X.prog X.w) X.A (f v u) Q X.xe s₂) X.xe s₁) X.xe s := by
  refine thn (ha pins s σ H _ I h) fun v s1 ⟨x, H1, I1, r1, q1⟩ => ?_
  refine thn (hb pins s1 σ H1 _ I1 q1) fun u s2 ⟨y, H2, I2, r2, q2⟩ => ?_
  exact hf v u s2 x y H2 I2 r1 r2 q2

/-! ### names and constants -/
def tVar (i : Nat) : TE := fun σ H Q => ∃ v, σ[i]? = some (some v) ∧ Q v H
def tC (v : V) : TE := fun _ H Q => Q v H
theorem pe_var {i : Nat} {x : Str} {pos : Pos} (hN : X.N[i]? = some x) (hv : Vis X.env.scope x) (hd : (x == ("__debug__" : Str)) = false := by decide) (hcd : (x == ("__classdict__" : Str)) = false := by decide) : PE X (.Name x pos) (tVar i) := by
  intro pins s σ H Q I h
  obtain ⟨v, e, h⟩ := h
  obtain ⟨m, hn, hl⟩ := I.loc
  obtain ⟨u, r, l⟩ := hl i x v hN e hv
  have fin : EP X pins σ Q u s := ⟨v, H, I, r, h⟩
  rcases l with ⟨hk, hm⟩ | ⟨hk, c, hc, hcell⟩
  · exact wpAny_Name (wpAny_loadName_local I.ok.kind hk hn hm fin) hd
  · rcases hk with hk | hk
    · exact wpAny_Name (wpAny_loadName_cell I.ok.kind hk hc hcell fin) hd
    · exact wpAny_Name (wpAny_loadName_free I.ok.kind hk hc hcell fin hcd) hd
theorem pe_int {i j pos} : PE X (.Constant (.int i) j pos) (tC (.int i)) := fun _ _ _ H _ I h => wpAny_Constant_int ⟨.int i, H, I.tok _, ⟨_, rfl⟩, h⟩
theorem pe_bl {b j pos} : PE X (.Constant (.bool b) j pos) (tC (.bl b)) := fun _ _ _ H _ I h => Constant_bool ⟨.bl b, H, I, rfl, h⟩
theorem pe_non {j pos} : PE X (.Constant .none j pos) (tC .non) := fun _ _ _ H _ I h => Constant_none ⟨.non, H, I, rfl, h⟩
theorem pe_str {x j pos} : PE X (.Constant (.str x) j pos) (tC (.str x)) := fun _ _ _ H _ I h => Calls.Constant_str ⟨.str x, H, I.tok _, ⟨_, rfl⟩, h⟩

/-- a global name of the def -/
def Gl (X : Cx) (x : Str) : Prop := X.env.kindOf x = some .globalImplicit
theorem ld_glob {E : Value → Shared → Prop} {pins : List (Addr × Obj)} {s : Shared} {σ : St} {H : Hp} {x : Str} {u : Value} {pos : Pos} {Q : Value → Shared → Prop} (I : Inv X pins σ H s) (hg : Gl X x) (hm : X.mg x = some u) (h : Q u s)
    (hd : (x == ("__debug__" : Str)) = false := by decide) : wpAny (model X.prog X.w) X.A (eval (.Name x pos) X.env) Q E s :=
  Calls.Name_function_global I.ok.kind hg (Calls.loadGlobal_global (by rw [I.ok.glob]; exact I.mod.glob.keeps I.bk) hm h) hd
theorem ld_blt {E : Value → Shared → Prop} {pins : List (Addr × Obj)} {s : Shared} {σ : St} {H : Hp} {x : Str} {u : Value} {pos : Pos} {Q : Value → Shared → Prop} (I : Inv X pins σ H s) (hg : Gl X x) (hm : X.mg x = none) (hv : bootBuiltins x = some u) (h : Q u s)
    (hn : x ≠ "__name__" := by decide) (hd : (x == ("__debug__" : Str)) = false := by decide) : wpAny (model X.prog X.w) X.A (eval (.Name x pos) X.env) Q E s := by
  obtain ⟨mb, h1, h2⟩ := I.mod.blt
  exact Calls.Name_function_global I.ok.kind hg (Calls.loadGlobal_builtin (by rw [I.ok.glob]; exact I.mod.glob.keeps I.bk) hm (by rw [I.ok.blt]; exact h1.keeps I.bk) ((h2 x hn).trans hv) h) hd
/-- a module's constant, a class, a function, as a value -/
theorem pe_glob {x : Str} {v : V} {u : Value} {pos : Pos} (hg : Gl X x) (hm : X.mg x = some u) (r : RelV v u) (hd : (x == ("__debug__" : Str)) = false := by decide) : PE X (.Name x pos) (tC v) :=
  fun _ _ _ H _ I h => ld_glob I hg hm ⟨v, H, I, r, h⟩ hd
theorem pe_bltn {x : Str} {v : V} {u : Value} {pos : Pos} (hg : Gl X x) (hm : X.mg x = none) (hv : bootBuiltins x = some u) (r : RelV v u) (hn : x ≠ "__name__" := by decide) (hd : (x == ("__debug__" : Str)) = false := by decide) : PE X (.Name x pos) (tC v) :=
  fun _ _ _ H _ I h => ld_blt I hg hm hv ⟨v, H, I, r, h⟩ hn hd

/-! ### arithmetic -/
/-- two ints -/
def t2I (ta tb : TE) (k : Int → Int → Hp → Prop) : St → Hp → Prop := fun σ H => ta σ H fun x H1 => tb σ H1 fun y H2 => ∃ i j, x = .int i ∧ y = .int j ∧ k i j H2
def tAdd (ta tb : TE) : TE := fun σ H Q => t2I ta tb (fun i j H2 => Q (.int (i + j)) H2) σ H
def tSub (ta tb : TE) : TE := fun σ H Q => t2I ta tb (fun i j H2 => Q (.int (i - j)) H2) σ H
/-- the left factor below 2^64 -/
def tMul (ta tb : TE) : TE := fun σ H Q => t2I ta tb (fun i j H2 => (-(2 ^ 64) < i ∧ i < 2 ^ 64) ∧ Q (.int (i * j)) H2) σ H
variable {a b : Expr} {ta tb : TE} {pos : Pos}
theorem pe_add (ha : PE X a ta) (hb : PE X b tb) : PE X (.BinOp a .Add b pos) (tAdd ta tb) := by
  intro pins s σ H Q I h
  refine wpAny_BinOp (bin ha hb I h fun v u s2 x y H2 I2 rx ry q => ?_)
  obtain ⟨i, j, rfl, rfl, q⟩ := q
  obtain ⟨t, rfl⟩ := rx
  obtain ⟨t', rfl⟩ := ry
  exact add_int ⟨.int _, H2, I2.tok _, ⟨_, rfl⟩, q⟩
theorem pe_sub (ha : PE X a ta) (hb : PE X b tb) : PE X (.BinOp a .Sub b pos) (tSub ta tb) := by
  intro pins s σ H Q I h
  refine wpAny_BinOp (bin ha hb I h fun v u s2 x y H2 I2 rx ry q => ?_)
  obtain ⟨i, j, rfl, rfl, q⟩ := q
  obtain ⟨t, rfl⟩ := rx
  obtain ⟨t', rfl⟩ := ry
  exact sub_int ⟨.int _, H2, I2.tok _, ⟨_, rfl⟩, q⟩
theorem pe_mul (ha : PE X a ta) (hb : PE X b tb) : PE X (.BinOp a .Mult b pos) (tMul ta tb) := by
  intro pins s σ H Q I h
  refine wpAny_BinOp (bin ha hb I h fun v u s2 x y H2 I2 rx ry q => ?_)
  obtain ⟨i, j, rfl, rfl, ⟨q1, q2⟩, q⟩ := q
  obtain ⟨t, rfl⟩ := rx
  obtain ⟨t', rfl⟩ := ry
  exact mul_int ⟨.int _, H2, I2.tok _, ⟨_, rfl⟩, q⟩ (.of_left (intBits_le_64 q1 q2))

/-! ### comparisons -/
def PC (X : Cx) (op : CmpOp) (a b : Expr) (t : TE) : Prop :=
  ∀ (pins : List (Addr × Obj)) (s : Shared) (σ : St) (H : Hp) (Q : VK), Inv X pins σ H s → t σ H Q →
    wpAny (model X.prog X.w) X.A (eval a X.env) (fun v s₁ => wpAny (model X.prog X.w) X.A (eval b X.env) (fun u s₂ => wpAny (model X.prog X.w) X.A (compareOp op v u) (EP X pins σ Q) X.xe s₂) X.xe s₁) X.xe s
theorem nobehind (b : Expr) {op : CmpOp} (h : op ≠ .In) (h2 : op ≠ .NotIn) : behindInMarks op b = false := by
  have e1 : (op == CmpOp.In) = false := by cases op <;> first | rfl | exact absurd rfl h
  have e2 : (op == CmpOp.NotIn) = false := by cases op <;> first | rfl | exact absurd rfl h2
  cases b <;> simp [behindInMarks, e1, e2]
def tCmp (p : Int → Int → Bool) (ta tb : TE) : TE := fun σ H Q => t2I ta tb (fun i j H2 => Q (.bl (p i j)) H2) σ H
abbrev tLt : TE → TE → TE := tCmp fun i j => decide (i < j)
abbrev tLe : TE → TE → TE := tCmp fun i j => decide (i ≤ j)
abbrev tGt : TE → TE → TE := tCmp fun i j => decide (j < i)
abbrev tGe : TE → TE → TE := tCmp fun i j => decide (j ≤ i)
abbrev tEqI : TE → TE → TE := tCmp fun i j => decide (i = j)
abbrev tNeI : TE → TE → TE := tCmp fun i j => !decide (i = j)
/-- a comparison of two ints, by its rule -/
theorem pc_int {op : CmpOp} {p : Int → Int → Bool} (ha : PE X a ta) (hb : PE X b tb)
    (rule : ∀ (i j : Int) (t u : Tok) (Q : Value → Shared → Prop) (s : Shared), Q (.bool (p i j)) s → wpAny (model X.prog X.w) X.A (compareOp op (.int i t) (.int j u)) Q X.xe s) : PC X op a b (tCmp p ta tb) := by
  intro pins s σ H Q I h
  refine bin ha hb I h fun v u s2 x y H2 I2 rx ry q => ?_
  obtain ⟨i, j, rfl, rfl, q⟩ := q
  obtain ⟨t, rfl⟩ := rx
  obtain ⟨t', rfl⟩ := ry
  exact rule i j t t' _ s2 ⟨.bl _, H2, I2, rfl, q⟩
theorem pc_lt (ha : PE X a ta) (hb : PE X b tb) : PC X .Lt a b (tLt ta tb) := pc_int ha hb fun _ _ _ _ _ _ h => lt_int h
theorem pc_le (ha : PE X a ta) (hb : PE X b tb) : PC X .LtE a b (tLe ta tb) := pc_int ha hb fun _ _ _ _ _ _ h => le_int h
theorem pc_gt (ha : PE X a ta) (hb : PE X b tb) : PC X .Gt a b (tGt ta tb) := pc_int ha hb fun _ _ _ _ _ _ h => gt_int h
theorem pc_ge (ha : PE X a ta) (hb : PE X b tb) : PC X .GtE a b (tGe ta tb) := pc_int ha hb fun _ _ _ _ _ _ h => ge_int h
theorem pc_eqI (ha : PE X a ta) (hb : PE X b tb) : PC X .Eq a b (tEqI ta tb) := pc_int ha hb fun _ _ _ _ _ _ h => eq_int (by rw [Bool.beq_eq_decide_eq]; exact h)
theorem pc_neI (ha : PE X a ta) (hb : PE X b tb) : PC X .NotEq a b (tNeI ta tb) := pc_int ha hb fun _ _ _ _ _ _ h => ne_int (by rw [bne, Bool.beq_eq_decide_eq]; exact h)
/-- is None -/
def tIsN (ta : TE) : TE := fun σ H Q => ta σ H fun x H1 => Q (.bl (decide (x = .non))) H1
def tNotN (ta : TE) : TE := fun σ H Q => ta σ H fun x H1 => Q (.bl (!decide (x = .non))) H1
theorem RelV.none_iff {x : V} {v : Value} (r : RelV x v) : (v == Value.none) = decide (x = .non) := by
  cases x with
  | non => cases r; rfl
  | bl _ => cases r; rfl
  | int _ => obtain ⟨t, rfl⟩ := r; rfl
  | str _ => obtain ⟨t, rfl⟩ := r; rfl
  | byt _ => obtain ⟨t, rfl⟩ := r; rfl
  | flt _ => obtain ⟨t, rfl⟩ := r; rfl
  | ref _ => cases r; rfl
  | ty _ => cases r; rfl
theorem pc_isN {j pos'} (ha : PE X a ta) : PC X .Is a (.Constant .none j pos') (tIsN ta) := by
  intro pins s σ H Q I h
  refine thn (ha pins s σ H _ I h) fun v s1 ⟨x, H1, I1, r1, q1⟩ => ?_
  exact Constant_none (is_none_gen ⟨.bl _, H1, I1, by rw [r1.none_iff]; rfl, q1⟩)
theorem pc_notN {j pos'} (ha : PE X a ta) : PC X .IsNot a (.Constant .none j pos') (tNotN ta) := by
  intro pins s σ H Q I h
  refine thn (ha pins s σ H _ I h) fun v s1 ⟨x, H1, I1, r1, q1⟩ => ?_
  exact Constant_none (isnot_none_gen ⟨.bl _, H1, I1, by rw [r1.none_iff]; rfl, q1⟩)
/-- a comparison as a value, as a test -/
def tB (t : TE) : TT := fun σ H Q => t σ H fun x H1 => ∃ c, x = .bl c ∧ Q c H1
theorem pe_cmp {op : CmpOp} {t : TE} (h : PC X op a b t) (h1 : behindInMarks op b = false := by first | exact nobehind _ (by decide) (by decide) | rfl) : PE X (.Compare a [op] [b] pos) t := fun pins s σ H Q I hw => wpAny_Compare1 (h pins s σ H Q I hw) h1
theorem pt_cmp {op : CmpOp} {t : TE} (h : PC X op a b t) (h1 : behindInMarks op b = false := by first | exact nobehind _ (by decide) (by decide) | rfl) : PT X (.Compare a [op] [b] pos) (tB t) := by
  intro pins s σ H Q I hw
  refine wpAny_isTrue_Compare1 (thn (h pins s σ H _ I hw) fun v s1 h1 => thn h1 fun u s2 h2 => thn h2 fun c s3 ⟨x, H1, I1, r1, q1⟩ => ?_) h1
  obtain ⟨d, rfl, q⟩ := q1
  cases r1
  exact wpAny_truthy_bool ⟨H1, I1, q⟩
/-- an expression whose value is a bool, as a test -/
theorem pt_val {e : Expr} {t : TE} (h : PE X e t) (he : ∀ whole, isTrue e X.env whole = (do let v ← whole; standAt e.pos; holding [v] (truthy v)) := by intro _; rfl) : PT X e (tB t) := by
  intro pins s σ H Q I hw
  refine isTrue_plain (thn (h pins s σ H _ I hw) fun v s1 ⟨x, H1, I1, r1, q1⟩ => ?_) (he _)
  obtain ⟨d, rfl, q⟩ := q1
  cases r1
  exact wpAny_truthy_bool ⟨H1, I1, q⟩

/-! ### and, or, not -/
variable {tA tB' : TT} {rest : List Expr}
def tAnd (t u : TT) : TT := fun σ H Q => t σ H fun c H1 => if c = true then u σ H1 Q else Q false H1
def tOr (t u : TT) : TT := fun σ H Q => t σ H fun c H1 => if c = true then Q true H1 else u σ H1 Q
def tNot (t : TT) : TT := fun σ H Q => t σ H fun c H1 => Q (!c) H1
theorem pw_and1 (ha : PT X a tA) : PW X (.BoolOp .And [a] pos) tA := by
  intro wh pins s σ H Q I h
  refine isTrue_and (thn (ha pins s σ H Q I h) fun c s1 e => ?_)
  cases c with
  | true => exact isTrue_and_nil e
  | false => exact e
theorem pw_or1 (ha : PT X a tA) : PW X (.BoolOp .Or [a] pos) tA := by
  intro wh pins s σ H Q I h
  refine isTrue_or (thn (ha pins s σ H Q I h) fun c s1 e => ?_)
  cases c with
  | false => exact isTrue_or_nil e
  | true => exact e
theorem pw_and (ha : PT X a tA) (hb : PW X (.BoolOp .And (b :: rest) pos) tB') : PW X (.BoolOp .And (a :: b :: rest) pos) (tAnd tA tB') := by
  intro wh pins s σ H Q I h
  refine isTrue_and (thn (ha pins s σ H _ I h) fun c s1 ⟨H1, I1, q1⟩ => ?_)
  cases c with
  | true => exact hb wh pins s1 σ H1 Q I1 q1
  | false => exact ⟨H1, I1, q1⟩
theorem pw_or (ha : PT X a tA) (hb : PW X (.BoolOp .Or (b :: rest) pos) tB') : PW X (.BoolOp .Or (a :: b :: rest) pos) (tOr tA tB') := by
  intro wh pins s σ H Q I h
  refine isTrue_or (thn (ha pins s σ H _ I h) fun c s1 ⟨H1, I1, q1⟩ => ?_)
  cases c with
  | true => exact ⟨H1, I1, q1⟩
  | false => exact hb wh pins s1 σ H1 Q I1 q1
theorem pt_not (ha : PT X a tA) : PT X (.UnaryOp .Not a pos) (tNot tA) := by
  intro pins s σ H Q I h
  exact isTrue_not (ha pins s σ H (fun c H1 => Q (!c) H1) I h)
/-- .. as values (bools) -/
def tAndV (ta tb : TE) : TE := fun σ H Q => ta σ H fun x H1 => ∃ c, x = .bl c ∧ if c = true then tb σ H1 Q else Q (.bl false) H1
def tOrV (ta tb : TE) : TE := fun σ H Q => ta σ H fun x H1 => ∃ c, x = .bl c ∧ if c = true then Q (.bl true) H1 else tb σ H1 Q
def tNotV (ta : TE) : TE := fun σ H Q => ta σ H fun x H1 => ∃ c, x = .bl c ∧ Q (.bl (!c)) H1
theorem pe_one {op} {t : TE} (h : PE X a t) : PE X (.BoolOp op [a] pos) t := fun pins s σ H Q I hw => BoolOp_one (h pins s σ H Q I hw)
theorem pe_and (ha : PE X a ta) (hb : PE X (.BoolOp .And (b :: rest) pos) tb) : PE X (.BoolOp .And (a :: b :: rest) pos) (tAndV ta tb) := by
  intro pins s σ H Q I h
  refine BoolOp_and (thn (ha pins s σ H _ I h) fun v s1 ⟨x, H1, I1, r1, q1⟩ => ?_)
  obtain ⟨c, rfl, q1⟩ := q1
  cases r1
  refine wpAny_truthy_bool ?_
  cases c with
  | true => exact hb pins s1 σ H1 Q I1 q1
  | false => exact ⟨.bl false, H1, I1, rfl, q1⟩
theorem pe_or (ha : PE X a ta) (hb : PE X (.BoolOp .Or (b :: rest) pos) tb) : PE X (.BoolOp .Or (a :: b :: rest) pos) (tOrV ta tb) := by
  intro pins s σ H Q I h
  refine BoolOp_or (thn (ha pins s σ H _ I h) fun v s1 ⟨x, H1, I1, r1, q1⟩ => ?_)
  obtain ⟨c, rfl, q1⟩ := q1
  cases r1
  refine wpAny_truthy_bool ?_
  cases c with
  | false => exact hb pins s1 σ H1 Q I1 q1
  | true => exact ⟨.bl true, H1, I1, rfl, q1⟩
theorem pe_not (ha : PE X a ta) : PE X (.UnaryOp .Not a pos) (tNotV ta) := by
  intro pins s σ H Q I h
  refine UnaryOp_ (thn (ha pins s σ H _ I h) fun v s1 ⟨x, H1, I1, r1, q1⟩ => ?_)
  obtain ⟨c, rfl, q1⟩ := q1
  cases r1
  exact not_of (wpAny_truthy_bool ⟨.bl (!c), H1, I1, rfl, q1⟩)
/-- a if t else b -/
def tIf (t : TT) (ta tb : TE) : TE := fun σ H Q => t σ H fun c H1 => if c = true then ta σ H1 Q else tb σ H1 Q
theorem pe_ifExp {c : Expr} (hc : PT X c tA) (ha : PE X a ta) (hb : PE X b tb) : PE X (.IfExp c a b pos) (tIf tA ta tb) := by
  intro pins s σ H Q I h
  refine wpAny_IfExp (thn (hc pins s σ H _ I h) fun d s1 ⟨H1, I1, q1⟩ => ?_)
  cases d with
  | true => exact ha pins s1 σ H1 Q I1 q1
  | false => exact hb pins s1 σ H1 Q I1 q1
end
end L2

namespace L2
open PySem PySem.Spec PyProof.Rows

/-! ### a list, a tuple that is read: tracked, frozen, or an object of the module -/
def SqL (K : PySem.W.Frag) (H : Hp) (a : Addr) (xs : List V) : Prop :=
  Rd H a (.lst xs) ∨
    ∃ (o : Obj) (its : Array Value) (n : Nat), K.lookup a = some o ∧ o.cls = .type "list" ∧ o.dict = none ∧ o.data = .seq its n ∧ its.size ≤ sizeLine ∧ Vals xs its.toList
def SqT (K : PySem.W.Frag) (H : Hp) (a : Addr) (xs : List V) : Prop :=
  Rd H a (.tup xs) ∨
    ∃ (o : Obj) (its : Array Value) (n : Nat), K.lookup a = some o ∧ o.cls = .type "tuple" ∧ o.data = .seq its n ∧ its.size ≤ sizeLine ∧ Vals xs its.toList
def absV : Value → Option V
  | .none => some .non
  | .bool b => some (.bl b)
  | .int i _ => some (.int i)
  | .str x _ => some (.str x)
  | .bytes b _ => some (.byt b)
  | .float b _ => some (.flt b)
  | .ref a => some (.ref a)
  | .type n => some (.ty n)
  | _ => none
theorem RelV.abs {x : V} {u : Value} (r : RelV x u) : absV u = some x := by
  cases x with
  | non => cases r; rfl
  | bl _ => cases r; rfl
  | int _ => obtain ⟨t, rfl⟩ := r; rfl
  | str _ => obtain ⟨t, rfl⟩ := r; rfl
  | byt _ => obtain ⟨t, rfl⟩ := r; rfl
  | flt _ => obtain ⟨t, rfl⟩ := r; rfl
  | ref _ => cases r; rfl
  | ty _ => cases r; rfl
theorem RelV.inj {x y : V} {u : Value} (r : RelV x u) (q : RelV y u) : x = y := Option.some.inj (r.abs.symm.trans q.abs)
theorem Vals.inj : ∀ {xs ys : List V} {us : List Value}, Vals xs us → Vals ys us → xs = ys
  | _, _, _, .nil, .nil => rfl
  | _, _, _, .cons r t, .cons r' t' => by rw [r.inj r', Vals.inj t t']
section
variable {X : Cx} {pins : List (Addr × Obj)} {σ : St} {H : Hp} {s : Shared} {a : Addr} {xs ys : List V}
theorem SqL.of {K : PySem.W.Frag} (h : H a = some (.lst xs)) : SqL K H a xs := .inl (.inl h)
theorem SqT.of {K : PySem.W.Frag} (h : H a = some (.tup xs)) : SqT K H a xs := .inl (.inl h)
theorem Inv.list (I : Inv X pins σ H s) (h : SqL X.K H a xs) : ∃ its : List Value, Vals xs its ∧ PlainL s.heap a its.toArray ∧ xs.length ≤ sizeLine := by
  rcases h with h | ⟨o, its, n, hk, hc, hd, hs, hz, r⟩
  · obtain ⟨z, its, n, r, e⟩ := h.ok I.hok
    exact ⟨its, r, ⟨_, n, e, rfl, rfl, rfl⟩, z⟩
  · refine ⟨its.toList, r, ⟨o, n, I.kIn a o hk, hc, hd, by simpa using hs⟩, ?_⟩
    have e := r.length
    simp only [Array.length_toList] at e
    omega
theorem Inv.tuple (I : Inv X pins σ H s) (h : SqT X.K H a xs) : ∃ its : List Value, Vals xs its ∧ IsTup s.heap a its.toArray ∧ xs.length ≤ sizeLine := by
  rcases h with h | ⟨o, its, n, hk, hc, hs, hz, r⟩
  · obtain ⟨z, its, r, p⟩ := h.ok I.hok
    exact ⟨its, r, p, z⟩
  · refine ⟨its.toList, r, ⟨o, I.kIn a o hk, hc, n, by simpa using hs⟩, ?_⟩
    have e := r.length
    simp only [Array.length_toList] at e
    omega
theorem Inv.list_inj (I : Inv X pins σ H s) (h : SqL X.K H a xs) (h' : SqL X.K H a ys) : xs = ys := by
  obtain ⟨its, r, ⟨o, n, e, _, _, d⟩, _⟩ := I.list h
  obtain ⟨its', r', ⟨o', n', e', _, _, d'⟩, _⟩ := I.list h'
  rw [e] at e'; cases e'
  rw [d] at d'
  injection d' with d1 _
  have : its = its' := by simpa using congrArg Array.toList d1
  subst this
  exact r.inj r'
theorem Inv.tuple_inj (I : Inv X pins σ H s) (h : SqT X.K H a xs) (h' : SqT X.K H a ys) : xs = ys := by
  obtain ⟨its, r, ⟨o, e, _, n, d⟩, _⟩ := I.tuple h
  obtain ⟨its', r', ⟨o', e', _, n', d'⟩, _⟩ := I.tuple h'
  rw [e] at e'; cases e'
  rw [d] at d'
  injection d' with d1 _
  have : its = its' := by simpa using congrArg Array.toList d1
  subst this
  exact r.inj r'
end

/-! ### another wish about exceptions -/
abbrev Cx.wish (X : Cx) (E : Value → Shared → Prop) : Cx := { X with xe := E }
/-- no exception leaves -/
abbrev Cx.nox (X : Cx) : Cx := X.wish fun _ _ => False
theorem Cx.Ok.wish {X : Cx} (ok : X.Ok) (E : Value → Shared → Prop) : (X.wish E).Ok :=
  ⟨ok.mod, ok.kind, ok.glob, ok.blt, ok.above, ok.inj, ok.has, ok.cab, ok.hd, ok.frames, ok.stk, ok.exf, ok.bs, ok.bsz, ok.noex, ok.exfs, ok.funs, ok.frf⟩
theorem Cx.Ok.unwish {X : Cx} {E : Value → Shared → Prop} (ok : (X.wish E).Ok) : X.Ok :=
  ⟨ok.mod, ok.kind, ok.glob, ok.blt, ok.above, ok.inj, ok.has, ok.cab, ok.hd, ok.frames, ok.stk, ok.exf, ok.bs, ok.bsz, ok.noex, ok.exfs, ok.funs, ok.frf⟩
section
variable {X : Cx} {pins : List (Addr × Obj)} {σ : St} {H : Hp} {s : Shared} {E : Value → Shared → Prop}
theorem Inv.wish (I : Inv X pins σ H s) (E : Value → Shared → Prop) : Inv (X.wish E) pins σ H s := ⟨I.ok.wish E, I.os, I.bare, I.base, I.loc, I.cell, I.free, I.freeC, I.pin, I.hok, I.len⟩
theorem Inv.unwish (I : Inv (X.wish E) pins σ H s) : Inv X pins σ H s := ⟨I.ok.unwish, I.os, I.bare, I.base, I.loc, I.cell, I.free, I.freeC, I.pin, I.hok, I.len⟩
theorem SP.unwish {D : Ends} {f : Flow} {s' : Shared} (h : SP (X.wish E) pins D f s') : SP X pins D f s' := by
  cases f with
  | next => obtain ⟨σ', H', I, q⟩ := h; exact ⟨σ', H', I.unwish, q⟩
  | brk => obtain ⟨σ', H', I, q⟩ := h; exact ⟨σ', H', I.unwish, q⟩
  | cont => obtain ⟨σ', H', I, q⟩ := h; exact ⟨σ', H', I.unwish, q⟩
  | ret u => obtain ⟨v, σ', H', I, r, q⟩ := h; exact ⟨v, σ', H', I.unwish, r, q⟩
theorem PE.nox {e : Expr} {t : TE} (h : PE X.nox e t) : PE X e t := fun pins s σ H Q I hw =>
  wpAny_mono (h pins s σ H Q (I.wish _) hw) (fun _ _ ⟨v, H', I', r, q⟩ => ⟨v, H', I'.unwish, r, q⟩) fun _ _ z => False.elim z
theorem PT.nox {e : Expr} {t : TT} (h : PT X.nox e t) : PT X e t := fun pins s σ H Q I hw =>
  wpAny_mono (h pins s σ H Q (I.wish _) hw) (fun _ _ ⟨H', I', q⟩ => ⟨H', I'.unwish, q⟩) fun _ _ z => False.elim z
theorem PSs.nox {st : List Stmt} {t : TS} (h : PSs X.nox st t) : PSs X st t := fun pins s σ H D I hw =>
  wpAny_mono (h pins s σ H D (I.wish _) hw) (fun _ _ q => q.unwish) fun _ _ z => False.elim z
end

/-! ### blocks and small statements -/
section
variable {X : Cx} {st : Stmt} {rest : List Stmt} {t u : TS} {e : Expr} {te : TE} {pos : Pos}
def tNext : TS := fun D σ H => D.nx σ H
def tSeq (t u : TS) : TS := fun D σ H => t { D with nx := u D } σ H
theorem pss_nil : PSs X [] tNext := fun _ _ σ H _ I h => wpAny_execs_nil ⟨σ, H, I, h⟩
theorem pss_cons (h1 : PS X st t) (h2 : PSs X rest u) : PSs X (st :: rest) (tSeq t u) := by
  intro pins s σ H D I h
  refine wpAny_execs_cons (thn (h1 pins s σ H { D with nx := u D } I h) fun f s1 q => ?_)
  cases f with
  | next =>
    obtain ⟨σ', H', I', q⟩ := q
    exact h2 pins s1 σ' H' D I' q
  | ret v => exact q
  | brk => exact q
  | cont => exact q
theorem pss_one (h1 : PS X st t) : PSs X [st] t := by
  intro pins s σ H D I h
  refine wpAny_execs_cons (thn (h1 pins s σ H D I h) fun f s1 q => ?_)
  cases f with
  | next => exact wpAny_execs_nil q
  | ret v => exact q
  | brk => exact q
  | cont => exact q
def tBreak : TS := fun D σ H => D.bk σ H
def tCont : TS := fun D σ H => D.ct σ H
theorem ps_pass : PS X (.Pass pos) tNext := fun _ _ σ H _ I h => wpAny_Pass ⟨σ, H, I, h⟩
theorem ps_break : PS X (.Break pos) tBreak := fun _ _ σ H _ I h => wpAny_Break ⟨σ, H, I, h⟩
theorem ps_continue : PS X (.Continue pos) tCont := fun _ _ σ H _ I h => wpAny_Continue ⟨σ, H, I, h⟩
/-- in a def's body nothing is shown -/
theorem Inv.quiet {pins : List (Addr × Obj)} {σ : St} {H : Hp} {s : Shared} (I : Inv X pins σ H s) : interactive X.env = false := by simp [interactive, I.ok.kind]
/-- a docstring -/
theorem ps_doc {x j pos pos'} : PS X (.Expr (.Constant (.str x) j pos) pos') tNext := fun _ s σ H _ I h => wpAny_Expr (Calls.Constant_str (show SP X _ _ .next { s with toks := s.toks + 1 } from ⟨σ, H, I.tok _, h⟩)) I.quiet
/-- an expression whose value is dropped -/
def tDrop (te : TE) : TS := fun D σ H => te σ H fun _ H1 => D.nx σ H1
theorem ps_expr (he : PE X e te) (hs : swapsWith e none pos.line X.env = pure false := by rfl) : PS X (.Expr e pos) (tDrop te) := by
  intro pins s σ H D I h
  exact wpAny_Expr_any (thn (he pins s σ H _ I h) fun v s1 ⟨x, H1, I1, r1, q1⟩ => ⟨σ, H1, I1, q1⟩) I.quiet hs
def tRet (te : TE) : TS := fun D σ H => te σ H D.rt
theorem ps_ret (he : PE X e te) : PS X (.Return (some e) pos) (tRet te) := by
  intro pins s σ H D I h
  exact wpAny_Return_some (thn (he pins s σ H _ I h) fun v s1 ⟨x, H1, I1, r1, q1⟩ => ⟨x, σ, H1, I1, r1, q1⟩)
def tRetN : TS := fun D _ H => D.rt .non H
theorem ps_retN : PS X (.Return none pos) tRetN := fun _ _ σ H _ I h => wpAny_Return_none ⟨.non, σ, H, I, rfl, h⟩
def tIfS (c : TT) (t u : TS) : TS := fun D σ H => c σ H fun b H1 => if b = true then t D σ H1 else u D σ H1
theorem ps_if {c : Expr} {a b : List Stmt} {tc : TT} (hc : PT X c tc) (ha : PSs X a t) (hb : PSs X b u) : PS X (.If c a b pos) (tIfS tc t u) := by
  intro pins s σ H D I h
  refine wpAny_If (thn (hc pins s σ H _ I h) fun d s1 ⟨H1, I1, q1⟩ => ?_)
  cases d with
  | true => exact ha pins s1 σ H1 D I1 q1
  | false => exact hb pins s1 σ H1 D I1 q1
/-- code that the proof never comes to -/
def tNever : TS := fun _ _ _ => False
theorem ps_never : PS X st tNever := fun _ _ _ _ _ _ h => h.elim
theorem pss_never {sts : List Stmt} : PSs X sts tNever := fun _ _ _ _ _ _ h => h.elim
end

/-! ### targets -/
abbrev TG := V → St → Hp → (St → Hp → Prop) → Prop
abbrev TGs := List V → St → Hp → (St → Hp → Prop) → Prop
def PG (X : Cx) (target : Expr) (t : TG) : Prop :=
  ∀ (pins : List (Addr × Obj)) (s : Shared) (σ : St) (H : Hp) (v : V) (u : Value) (Q : St → Hp → Prop), Inv X pins σ H s → RelV v u → t v σ H Q →
    wpAny (model X.prog X.w) X.A (assign target X.env u) (fun _ s' => ∃ σ' H', Inv X pins σ' H' s' ∧ Q σ' H') X.xe s
/-- several targets, one after another -/
def PGs (X : Cx) (ts : List Expr) (t : TGs) : Prop :=
  ∀ (pins : List (Addr × Obj)) (s : Shared) (σ : St) (H : Hp) (vs : List V) (us : List Value) (Q : St → Hp → Prop), Inv X pins σ H s → Vals vs us → t vs σ H Q →
    wpAny (model X.prog X.w) X.A (assignInOrder ((assignEach ts X.env).map (·.2)) us) (fun _ s' => ∃ σ' H', Inv X pins σ' H' s' ∧ Q σ' H') X.xe s
/-- o[i] = v, by values -/
abbrev TSet := V → V → V → Hp → (Hp → Prop) → Prop
def PSet (X : Cx) (t : TSet) : Prop :=
  ∀ (pins : List (Addr × Obj)) (s : Shared) (σ : St) (H : Hp) (o i v : V) (ov iv u : Value) (Q : Hp → Prop), Inv X pins σ H s → RelV o ov → RelV i iv → RelV v u → t o i v H Q →
    wpAny (model X.prog X.w) X.A (setItem ov iv u) (fun _ s' => ∃ H', Inv X pins σ H' s' ∧ Q H') X.xe s
/-- a op= b, by values -/
abbrev TIp := V → V → Hp → VK → Prop
def PIp (X : Cx) (op : Operator) (t : TIp) : Prop :=
  ∀ (pins : List (Addr × Obj)) (s : Shared) (σ : St) (H : Hp) (x y : V) (v u : Value) (Q : VK), Inv X pins σ H s → RelV x v → RelV y u → t x y H Q →
    wpAny (model X.prog X.w) X.A (inplaceOp op v u) (EP X pins σ Q) X.xe s
section
variable {X : Cx} {pos : Pos}
def gName (i : Nat) : TG := fun v σ H Q => Q (σ.set i (some v)) H
theorem pg_name {i : Nat} {x : Str} (hN : X.N.Nodup) (hi : X.N[i]? = some x) (hx : Loc X.env.scope x) (hf : X.fn x = true ∨ X.env.scope.names.lookup x = some .local := by first | exact .inl rfl | exact .inr rfl | assumption) : PG X (.Name x pos) (gName i) := by
  intro pins s σ H v u Q I r h
  exact wpAny_assign_Name (store_ok I hN hi hx r (fun s' I' => ⟨_, H, I', h⟩) hf)
def gNil : TGs := fun vs σ H Q => vs = [] ∧ Q σ H
def gCons (t : TG) (u : TGs) : TGs := fun vs σ H Q => ∃ v r, vs = v :: r ∧ t v σ H fun σ' H' => u r σ' H' Q
theorem pgs_nil : PGs X [] gNil := by
  intro pins s σ H vs us Q I r h
  obtain ⟨e, h⟩ := h
  subst e
  cases r
  exact assignInOrder_nil ⟨σ, H, I, h⟩
theorem pgs_cons {e : Expr} {es : List Expr} {t : TG} {u : TGs} (h1 : PG X e t) (h2 : PGs X es u)
    (hs : (assignEach (e :: es) X.env).map (·.2) = assign e X.env :: (assignEach es X.env).map (·.2) := by rfl) : PGs X (e :: es) (gCons t u) := by
  intro pins s σ H vs us Q I r h
  obtain ⟨v, vr, e1, h⟩ := h
  subst e1
  cases r with
  | cons r rr =>
    rw [hs]
    refine assignInOrder_cons (thn (h1 pins s σ H _ _ _ I r h) fun _ s1 ⟨σ1, H1, I1, q1⟩ => ?_)
    exact h2 pins s1 σ1 H1 _ _ Q I1 rr q1
/-- (a, b, ..) = a tuple of that length -/
def gTup (K : PySem.W.Frag) (n : Nat) (t : TGs) : TG := fun v σ H Q => ∃ a xs, v = .ref a ∧ SqT K H a xs ∧ xs.length = n ∧ t xs σ H Q
theorem pg_tup {es : List Expr} {k : Nat} {t : TGs} {n : Nat} (hc : X.calm = true) (h : PGs X es t)
    (hn : (assignEach es X.env).length = n := by rfl) (hst : (assignEach es X.env).findIdx? (·.1) = none := by rfl) : PG X (.Tuple es k pos) (gTup X.K n t) := by
  intro pins s σ H v u Q I r hw
  obtain ⟨a, xs, e1, hq, hl, hw⟩ := hw
  subst e1
  cases r
  obtain ⟨its, rv, ht, hz⟩ := I.tuple hq
  refine assign_Tuple_tuple (I.ok.hd hc) ht (by simp [hn, ← hl, rv.length]) hst fun h' hx => ?_
  have I1 : Inv X pins σ H { s with heap := h' } := I.kept (t' := s.toks) fun b o e => hx b o (Nat.ne_of_lt (Heap.lt_size e)) e
  exact h pins _ σ H xs _ Q I1 (by simpa using rv) hw
/-- o[i] = .. -/
def gSub (to ti : TE) (t : TSet) : TG := fun v σ H Q => to σ H fun o H1 => ti σ H1 fun i H2 => t o i v H2 fun H3 => Q σ H3
theorem pg_sub {o i : Expr} {to ti : TE} {t : TSet} (ho : PE X o to) (hi : PE X i ti) (hs : PSet X t)
    (ha : ∀ v, assign (.Subscript o i pos) X.env v = (do
      let ov ← holding [v] (eval o X.env)
      let iv ← holding [v, ov] (eval i X.env)
      standAt pos
      holding [v, ov, iv] (setItem ov iv v)
      release [v, ov, iv] []) := by intro _; rfl) : PG X (.Subscript o i pos) (gSub to ti t) := by
  intro pins s σ H v u Q I r h
  rw [ha]
  refine wpAny_bind (wpAny_holding (thn (ho pins s σ H _ I h) fun ov s1 ⟨x, H1, I1, r1, q1⟩ => ?_))
  refine wpAny_bind (wpAny_holding (thn (hi pins s1 σ H1 _ I1 q1) fun iv s2 ⟨y, H2, I2, r2, q2⟩ => ?_))
  refine wpAny_bind (wpAny_standAt (wpAny_bind (wpAny_holding (thn (hs pins s2 σ H2 x y v ov iv u _ I2 r1 r2 r q2) fun _ s3 ⟨H3, I3, q3⟩ => ?_))))
  exact wpAny_release ⟨σ, H3, I3, q3⟩
/-- target = value -/
def tAsg (te : TE) (g : TG) : TS := fun D σ H => te σ H fun x H1 => g x σ H1 D.nx
theorem ps_asg {tg e : Expr} {te : TE} {g : TG} (he : PE X e te) (hg : PG X tg g) (hs : swapsWithSole [tg] e pos.line X.env = pure false := by rfl) (hw : swappedStores [tg] e X.env = pure none := by rfl)
    (h1 : (assignEach [tg] X.env).map (·.2) = [assign tg X.env] := by rfl) : PS X (.Assign [tg] e pos) (tAsg te g) := by
  intro pins s σ H D I h
  refine wpAny_Assign_stores (thn (he pins s σ H _ I h) fun v s1 ⟨x, H1, I1, r1, q1⟩ => ?_) hs hw
  rw [h1]
  exact thn (hg pins s1 σ H1 x v _ I1 r1 q1) fun _ s2 q => q
/-- name = value -/
theorem ps_set {i : Nat} {x : Str} {e : Expr} {te : TE} {pos' : Pos} (hN : X.N.Nodup) (hi : X.N[i]? = some x) (hx : Loc X.env.scope x) (he : PE X e te) (hs : swapsWith e (some (.Name x pos')) pos.line X.env = pure false := by rfl) (hf : X.fn x = true ∨ X.env.scope.names.lookup x = some .local := by first | exact .inl rfl | exact .inr rfl | assumption) :
    PS X (.Assign [.Name x pos'] e pos) (tAsg te (gName i)) := by
  intro pins s σ H D I h
  refine wpAny_Assign_Name (thn (he pins s σ H _ I h) fun v s1 ⟨y, H1, I1, r1, q1⟩ => ?_) hs
  exact store_ok I1 hN hi hx r1 (fun s2 I2 => ⟨_, H1, I2, q1⟩) hf
/-- a, b = x, y with plain local names: stored from the right; the pair itself is not tracked (the opening rows as in PyProof/Rows/TupAssign.lean:23) -/
def tPar (i j : Nat) (ta : TA) : TS := fun D σ H => ta σ H fun vs H1 => ∃ v w, vs = [v, w] ∧ D.nx ((σ.set i (some v)).set j (some w)) H1
theorem ps_par {i j : Nat} {x y : Str} {a b : Expr} {ta : TA} {px py pt : Pos} {kt k2 pt2} (hc : X.calm = true) (hN : X.N.Nodup) (hi : X.N[i]? = some x) (hj : X.N[j]? = some y) (hij : i ≠ j)
    (hx : X.env.scope.names.lookup x = some .local) (hy : X.env.scope.names.lookup y = some .local) (ha : PA X [a, b] ta)
    (hw : swappedStores [.Tuple [.Name x px, .Name y py] kt pt] (.Tuple [a, b] k2 pt2) X.env = pure (some [x, y]))
    (hs : swapsWithSole [.Tuple [.Name x px, .Name y py] kt pt] (.Tuple [a, b] k2 pt2) pos.line X.env = pure false := by rfl) :
    PS X (.Assign [.Tuple [.Name x px, .Name y py] kt pt] (.Tuple [a, b] k2 pt2) pos) (tPar i j ta) := by
  intro pins s σ H D I h
  rw [exec_Assign_arm]
  refine wpAny_bind (wpAny_standAt ?_)
  rw [hs]
  refine wpAny_bind (wpAny_pure ?_)
  rw [if_neg (by decide)]
  refine wpAny_bind (Tuple_ (thn (ha _ pins s σ H _ I h) fun us s1 ⟨vs, H1, I1, r1, q1⟩ => ?_))
  obtain ⟨v, w, e1, q1⟩ := q1
  subst e1
  obtain ⟨u1, u2, rfl, rv, rw'⟩ : ∃ u1 u2, us = [u1, u2] ∧ RelV v u1 ∧ RelV w u2 := by
    cases r1 with
    | cons p q =>
      cases q with
      | cons p' q' =>
        cases q'
        exact ⟨_, _, rfl, p, p'⟩
  refine wpAny_newObj_type ?_ (by show 2 ≤ sizeLine; decide)
  have I2 : Inv X pins σ H1 { s1 with heap := s1.heap.push { cls := .type "tuple", data := .seq [u1, u2].toArray } } := I1.kept (t' := s1.toks) fun b o e => Heap.get?_push_of_some _ e
  rw [hw]
  refine wpAny_bind (wpAny_pure ?_)
  show wpAny (model X.prog X.w) X.A (do rule "assign.swapped-stores"; let items ← unpackItems (.ref s1.heap.objs.size) 2 none; assignInOrder [fun v => bindName X.env y v, fun v => bindName X.env x v] items.reverse; pure Flow.next) _ _ _
  refine wpAny_bind (wpAny_rule (wpAny_bind (unpackItems_tuple (items := #[u1, u2]) (I.ok.hd hc) (IsTup.new s1.heap _) fun h' hx' => ?_)))
  have I3 := I2.kept (h' := h') (t' := s1.toks) fun b o e => hx' b o (Nat.ne_of_lt (Heap.lt_size e)) e
  show wpAny _ _ (assignInOrder [fun v => bindName X.env y v, fun v => bindName X.env x v] [u2, u1] >>= fun _ => pure Flow.next) _ _ _
  refine wpAny_bind (assignInOrder_cons (wpAny_bindName (store_ok I3 hN hj (.inl hy) rw' (fun s2 I4 => ?_) (.inr hy))))
  refine assignInOrder_cons (wpAny_bindName (store_ok I4 hN hi (.inl hx) rv (fun s3 I5 => assignInOrder_nil (wpAny_pure ?_)) (.inr hx)))
  rw [List.set_comm _ _ (Ne.symm hij)] at I5
  exact ⟨_, H1, I5, q1⟩
/-- name op= e -/
def tAug (i : Nat) (te : TE) (ti : TIp) : TS := fun D σ H => ∃ x, σ[i]? = some (some x) ∧ te σ H fun y H1 => ti x y H1 fun z H2 => D.nx (σ.set i (some z)) H2
theorem ps_aug {i : Nat} {x : Str} {e : Expr} {te : TE} {op : Operator} {ti : TIp} {pos' : Pos} (hN : X.N.Nodup) (hi : X.N[i]? = some x) (hx : Loc X.env.scope x) (he : PE X e te) (ho : PIp X op ti) (hf : X.fn x = true ∨ X.env.scope.names.lookup x = some .local := by first | exact .inl rfl | exact .inr rfl | assumption) :
    PS X (.AugAssign (.Name x pos') op e pos) (tAug i te ti) := by
  intro pins s σ H D I h
  obtain ⟨v, e1, h⟩ := h
  obtain ⟨m, hn, hl⟩ := I.loc
  have vis : Vis X.env.scope x := by rcases hx with k | k; exact .inl k; exact .inr (.inl k)
  obtain ⟨u, r, l⟩ := hl i x v hi e1 vis
  refine wpAny_AugAssign_Name ?_
  have go : wpAny (model X.prog X.w) X.A (eval e X.env) (fun w s₂ => wpAny (model X.prog X.w) X.A (inplaceOp op u w) (fun r s₃ => wpAny (model X.prog X.w) X.A (storeName X.env x r) (fun _ => SP X pins D .next) X.xe s₃) X.xe s₂) X.xe s := by
    refine thn (he pins s σ H _ I h) fun w s1 ⟨y, H1, I1, r1, q1⟩ => ?_
    refine thn (ho pins s1 σ H1 v y u w _ I1 r r1 q1) fun z s2 ⟨zv, H2, I2, r2, q2⟩ => ?_
    exact store_ok I2 hN hi hx r2 (fun s3 I3 => ⟨_, H2, I3, q2⟩) hf
  rcases l with ⟨hk, hm⟩ | ⟨hk, c, hc, hcell⟩
  · exact wpAny_loadName_local I.ok.kind hk hn hm go
  · rcases hk with hk | hk
    · exact wpAny_loadName_cell I.ok.kind hk hc hcell go
    · rcases hx with k | k
      · have : X.env.scope.names.lookup x = some .free := hk
        rw [k] at this; cases this
      · have : X.env.scope.names.lookup x = some .free := hk
        rw [k] at this; cases this
/-- o[i] op= e -/
def tAugS (to ti te : TE) (tget : V → V → Hp → VK → Prop) (tip : TIp) (tset : TSet) : TS := fun D σ H => to σ H fun o H1 => ti σ H1 fun i H2 => tget o i H2 fun x H3 => te σ H3 fun y H4 => tip x y H4 fun z H5 => tset o i z H5 fun H6 => D.nx σ H6
/-- o[i], by values -/
def PGet (X : Cx) (t : V → V → Hp → VK → Prop) : Prop :=
  ∀ (pins : List (Addr × Obj)) (s : Shared) (σ : St) (H : Hp) (o i : V) (ov iv : Value) (Q : VK), Inv X pins σ H s → RelV o ov → RelV i iv → t o i H Q →
    wpAny (model X.prog X.w) X.A (getItem ov iv) (EP X pins σ Q) X.xe s
theorem ps_augS {o i e : Expr} {to ti te : TE} {tget : V → V → Hp → VK → Prop} {tip : TIp} {tset : TSet} {op : Operator} {tpos : Pos} (ho : PE X o to) (hi : PE X i ti) (hg : PGet X tget) (he : PE X e te) (hp : PIp X op tip) (hs : PSet X tset)
    (ha : ∀ ov iv new, augStore i ov iv new = (do holding [new, ov, iv] (setItem ov iv new); release [new, ov, iv] []; pure .next) := by intros; rfl) : PS X (.AugAssign (.Subscript o i tpos) op e pos) (tAugS to ti te tget tip tset) := by
  intro pins s σ H D I h
  refine wpAny_AugAssign_SubscriptAny (thn (ho pins s σ H _ I h) fun ov s1 ⟨x1, H1, I1, r1, q1⟩ => ?_) ha
  refine thn (hi pins s1 σ H1 _ I1 q1) fun iv s2 ⟨x2, H2, I2, r2, q2⟩ => ?_
  refine thn (hg pins s2 σ H2 x1 x2 ov iv _ I2 r1 r2 q2) fun old s3 ⟨x3, H3, I3, r3, q3⟩ => ?_
  refine thn (he pins s3 σ H3 _ I3 q3) fun v s4 ⟨x4, H4, I4, r4, q4⟩ => ?_
  refine thn (hp pins s4 σ H4 x3 x4 old v _ I4 r3 r4 q4) fun new s5 ⟨x5, H5, I5, r5, q5⟩ => ?_
  exact thn (hs pins s5 σ H5 x1 x2 x5 ov iv new _ I5 r1 r2 r5 q5) fun _ s6 ⟨H6, I6, q6⟩ => ⟨σ, H6, I6, q6⟩
/-- ints -/
def ipI (f : Int → Int → Int) : TIp := fun x y H Q => ∃ i j, x = .int i ∧ y = .int j ∧ Q (.int (f i j)) H
theorem ip_add : PIp X .Add (ipI fun i j => i + j) := by
  intro pins s σ H x y v u Q I r1 r2 h
  obtain ⟨i, j, e1, e2, q⟩ := h
  subst e1; subst e2
  obtain ⟨t, rfl⟩ := r1
  obtain ⟨t', rfl⟩ := r2
  exact iadd_int ⟨.int _, H, I.tok _, ⟨_, rfl⟩, q⟩
theorem ip_sub : PIp X .Sub (ipI fun i j => i - j) := by
  intro pins s σ H x y v u Q I r1 r2 h
  obtain ⟨i, j, e1, e2, q⟩ := h
  subst e1; subst e2
  obtain ⟨t, rfl⟩ := r1
  obtain ⟨t', rfl⟩ := r2
  exact isub_int ⟨.int _, H, I.tok _, ⟨_, rfl⟩, q⟩
end

/-! ### while -/
section
variable {X : Cx} {pos : Pos}
/-- the invariant W with its measure -/
def tWhile (c : TT) (tb : TS) : TS := fun D σ H => ∃ W : Nat → St → Hp → Prop, (∃ m, W m σ H) ∧ ∀ m σ H, W m σ H →
  c σ H fun b H1 => if b = true then ∃ N : St → Hp → Prop, (∀ σ' H', N σ' H' → ∃ m', m' < m ∧ W m' σ' H') ∧ tb { D with nx := N, ct := N, bk := D.nx } σ H1 else D.nx σ H1
theorem ps_while {c : Expr} {body : List Stmt} {tc : TT} {tb : TS} (hp : PassesOwn (model X.prog X.w) X.A X.env X.xe) (hc : PT X c tc) (hb : PSs X body tb) : PS X (.While c body [] pos) (tWhile tc tb) := by
  intro pins s σ H D I h
  obtain ⟨W, ⟨m0, w0⟩, turn⟩ := h
  refine wpAny_While (codeAny_whileLoop (fun n s' => ∃ σ' H', Inv X pins σ' H' s' ∧ W n σ' H') ?_ m0 ⟨σ, H, I, w0⟩)
  rintro n s1 ⟨σ1, H1, I1, w1⟩
  refine wpAny_passesOwn hp (thn (hc pins s1 σ1 H1 _ I1 (turn n σ1 H1 w1)) fun b s2 ⟨H2, I2, q2⟩ => ?_)
  cases b with
  | true =>
    obtain ⟨N, hN, q2⟩ := q2
    rw [if_pos rfl]
    refine wpAny_passesOwn hp (thn (hb pins s2 σ1 H2 _ I2 q2) fun f s3 q3 => ?_)
    cases f with
    | next =>
      obtain ⟨σ3, H3, I3, n3⟩ := q3
      obtain ⟨m', hm, w3⟩ := hN σ3 H3 n3
      exact ⟨m', hm, σ3, H3, I3, w3⟩
    | cont =>
      obtain ⟨σ3, H3, I3, n3⟩ := q3
      obtain ⟨m', hm, w3⟩ := hN σ3 H3 n3
      exact ⟨m', hm, σ3, H3, I3, w3⟩
    | brk => exact q3
    | ret v => exact q3
  | false =>
    rw [if_neg Bool.false_ne_true]
    exact wpAny_execs_nil ⟨σ1, H2, I2, q2⟩
end

/-! ### what a loop or a comprehension walks -/
/-- at turn i: it yields x (the heap may grow), or it stops -/
structure It where
  go : Nat → Hp → Prop
  yld : Nat → Hp → V → Hp → Prop
  stop : Nat → Hp → Prop
/-- the iterator's own objects may turn: they are not the frame's, not pinned, younger than the entry (or a comprehension's own) -/
def FpOk (X : Cx) (pins : List (Addr × Obj)) (H : Hp) (b : Addr) : Prop :=
  H b = none ∧ b ≠ X.env.locals ∧ b ∉ X.fs ∧ (b ∈ X.ex ∨ X.s₀.heap.objs.size ≤ b) ∧ (∀ x c, X.env.cells.lookup x = some c → c ≠ b) ∧ ∀ p ∈ X.pn ++ pins, p.1 ≠ b
theorem Inv.fpOk {X : Cx} {pins : List (Addr × Obj)} {σ : St} {H H' : Hp} {s : Shared} {b : Addr} (I : Inv X pins σ H s) (hb : s.heap.objs.size ≤ b) (hn : H' b = none) : FpOk X pins H' b := by
  refine ⟨hn, Nat.ne_of_gt (Nat.lt_of_lt_of_le I.lt hb), I.nofs hb, .inr (Nat.le_trans I.sz hb), fun x c e z => ?_, fun p hp z => ?_⟩
  · obtain ⟨v, q⟩ := I.cell x c e
    exact absurd (Nat.lt_of_lt_of_le q.lt (by rw [z]; exact hb)) (Nat.lt_irrefl _)
  · exact absurd (Nat.lt_of_lt_of_le (Heap.lt_size (I.pin p hp).1) (by rw [z]; exact hb)) (Nat.lt_irrefl _)
structure Turn (P : Program) (w : World) (K : PySem.W.Frag) (tg : Expr) (J : It) (fp : List Addr) (it : Addr) (tn : Nat → Heap → Prop) : Prop where
  mem : it ∈ fp
  obj : ∀ i h, tn i h → ∀ b ∈ fp, ∃ o, h.get? b = some o ∧ ∀ v, o.data ≠ .cell v
  keep : ∀ i h h', tn i h → (∀ b ∈ fp, ∀ o, h.get? b = some o → h'.get? b = some o) → tn i h'
  item : ∀ (X : Cx), X.prog = P → X.w = w → X.K = K → X.calm = true → ∀ (i : Nat) (pins : List (Addr × Obj)) (s : Shared) (σ : St) (H : Hp) (E : Value → Shared → Prop), Inv X pins σ H s → (∀ b ∈ fp, FpOk X pins H b) → tn i s.heap → J.go i H →
    wpAny (model P w) X.A (pyNext (.ref it)) (fun r s1 => ∃ u, r = some u ∧
      wpAny (model P w) X.A (letOwnedTupleGo tg (.ref it) u) (fun _ s2 => ∃ x H', Inv X pins σ H' s2 ∧ RelV x u ∧ J.yld i H x H' ∧ tn (i + 1) s2.heap ∧ ∀ b ∈ fp, H' b = none) E s1) E s
  done : ∀ (X : Cx), X.prog = P → X.w = w → X.K = K → X.calm = true → ∀ (i : Nat) (pins : List (Addr × Obj)) (s : Shared) (σ : St) (H : Hp) (E : Value → Shared → Prop), Inv X pins σ H s → (∀ b ∈ fp, FpOk X pins H b) → tn i s.heap → J.stop i H →
    wpAny (model P w) X.A (pyNext (.ref it)) (fun r s1 => r = none ∧ Inv X pins σ H s1) E s
  self : ∀ (A : Around) (i : Nat) (s : Shared) (Q : Value → Shared → Prop) (E : Value → Shared → Prop), tn i s.heap → Q (.ref it) s → wpAny (model P w) A (pyIter (.ref it)) Q E s
abbrev TI := St → Hp → (It → Hp → Prop) → Prop
/-- an iterator has come -/
def PIE (X : Cx) (pins : List (Addr × Obj)) (σ : St) (tg : Expr) (R : It → Hp → Prop) (itv : Value) (s2 : Shared) : Prop :=
  ∃ (it : Addr) (fp : List Addr) (tn : Nat → Heap → Prop) (J : It) (H' : Hp), itv = .ref it ∧ Inv X pins σ H' s2 ∧ Turn X.prog X.w X.K tg J fp it tn ∧ tn 0 s2.heap ∧ (∀ b ∈ fp, FpOk X pins H' b) ∧ R J H'
def PI (X : Cx) (tg iter : Expr) (wi : TI) : Prop :=
  ∀ (pins : List (Addr × Obj)) (s : Shared) (σ : St) (H : Hp) (R : It → Hp → Prop), Inv X pins σ H s → wi σ H R →
    wpAny (model X.prog X.w) X.A (eval iter X.env) (fun v s1 => wpAny (model X.prog X.w) X.A (pyIter v) (PIE X pins σ tg R) X.xe s1) X.xe s

/-- the step ahead of the store is nothing for an iterator that keeps no tuple -/
theorem go_of {M : Model} {A : Around} {E : Value → Shared → Prop} {s : Shared} {tg : Expr} {it : Addr} {u : Value} {o : Obj} {n : String} {vs : Array Value} {Q : Unit → Shared → Prop} (ho : s.heap.get? it = some o) (hc : o.cls = .type n) (hd : o.data = .fields vs)
    (hn : ["enumerate", "zip", "dict_itemiterator", "dict_reverseitemiterator", "odict_iterator", "itertools.zip_longest", "itertools.pairwise"].contains n = false) (hQ : Q () s) : wpAny M A (letOwnedTupleGo tg (.ref it) u) Q E s := by
  unfold letOwnedTupleGo
  cases tg <;> first
    | exact wpAny_pure hQ
    | (cases u <;> first
        | exact wpAny_pure hQ
        | (refine wpAny_bind (wpAny_load ho ?_)
           rw [hc, hd]
           show wpAny M A (if (["enumerate", "zip", "dict_itemiterator", "dict_reverseitemiterator", "odict_iterator", "itertools.zip_longest", "itertools.pairwise"].contains n && vs[0]? == some (rawInt _)) = true then _ else _) Q E s
           rw [if_neg (by intro h; rw [hn, Bool.false_and] at h; cases h)]
           exact wpAny_pure hQ))

/-- the list at a, as it stands at each turn (a loop may append to it) -/
def Itl (K : PySem.W.Frag) (a : Addr) : It :=
  ⟨fun i H => ∃ xs x, SqL K H a xs ∧ xs[i]? = some x, fun i H x H' => H' = H ∧ ∀ xs, SqL K H a xs → xs[i]? = some x, fun i H => ∃ xs, SqL K H a xs ∧ xs.length ≤ i⟩
def Itt (K : PySem.W.Frag) (a : Addr) : It :=
  ⟨fun i H => ∃ xs x, SqT K H a xs ∧ xs[i]? = some x, fun i H x H' => H' = H ∧ ∀ xs, SqT K H a xs → xs[i]? = some x, fun i H => ∃ xs, SqT K H a xs ∧ xs.length ≤ i⟩
/-- lo, lo + 1, .. (n of them) -/
def Itr (lo : Int) (n : Nat) : It := ⟨fun i _ => i < n, fun i H x H' => H' = H ∧ x = .int (lo + i), fun i _ => n ≤ i⟩
theorem turn_list {P : Program} {w : World} {K : PySem.W.Frag} {tg : Expr} (a it : Addr) : Turn P w K tg (Itl K a) [it] it (fun i h => h.IsListIter it a i) where
  mem := by simp
  obj := fun i h st b hb => by
    have e : b = it := by simpa using hb
    subst e
    obtain ⟨o, e, c, d⟩ := st
    exact ⟨o, e, fun v z => by rw [d] at z; cases z⟩
  keep := fun i h h' st k => st.at fun o e => k it (by simp) o e
  item := by
    intro X hP hw hK hc i pins s σ H E I hf st hg
    subst hP hw hK
    obtain ⟨xs, x, hq, hx⟩ := hg
    obtain ⟨its, rv, p, hz⟩ := I.list hq
    obtain ⟨u, hu, ru⟩ := rv.get hx
    obtain ⟨f0, f1, f2, f3, f4, f5⟩ := hf it (by simp)
    refine wpAny_pyNext_list_item st p.isList (x := u) (by simpa using hu) fun h' st' sb => ?_
    have I1 : Inv X pins σ H { s with heap := h' } := I.turned (t' := s.toks) (fun b o hb e => (sb.2 b hb).trans e) f0 f1 f3 f4 f5
    obtain ⟨o, e, c, d⟩ := id st'
    exact ⟨u, rfl, go_of (s := { s with heap := h' }) e c d (by decide) ⟨x, H, I1, ru, ⟨rfl, fun ys hy => by rw [I.list_inj hy hq]; exact hx⟩, st', fun b hb => (hf b hb).1⟩⟩
  done := by
    intro X hP hw hK hc i pins s σ H E I hf st hg
    subst hP hw hK
    obtain ⟨xs, hq, hx⟩ := hg
    obtain ⟨its, rv, p, hz⟩ := I.list hq
    obtain ⟨f0, f1, f2, f3, f4, f5⟩ := hf it (by simp)
    have hl := rv.length
    exact wpAny_pyNext_list_end (I.ok.hd hc) st p.isList (by simp; omega) fun h' eb => ⟨rfl, I.turned (t' := s.toks) (fun b o hb e => eb b o hb e) f0 f1 f3 f4 f5⟩
  self := fun _ _ _ _ _ st h => wpAny_pyIter_listiter st h
theorem turn_tuple {P : Program} {w : World} {K : PySem.W.Frag} {tg : Expr} (a it : Addr) : Turn P w K tg (Itt K a) [it] it (fun i h => h.IsTupleIter it a i) where
  mem := by simp
  obj := fun i h st b hb => by
    have e : b = it := by simpa using hb
    subst e
    obtain ⟨o, e, c, d⟩ := st
    exact ⟨o, e, fun v z => by rw [d] at z; cases z⟩
  keep := fun i h h' st k => st.at fun o e => k it (by simp) o e
  item := by
    intro X hP hw hK hc i pins s σ H E I hf st hg
    subst hP hw hK
    obtain ⟨xs, x, hq, hx⟩ := hg
    obtain ⟨its, rv, p, hz⟩ := I.tuple hq
    obtain ⟨u, hu, ru⟩ := rv.get hx
    obtain ⟨f0, f1, f2, f3, f4, f5⟩ := hf it (by simp)
    refine wpAny_pyNext_tuple_item st (show s.heap.IsTuple a its.toArray from p) (x := u) (by simpa using hu) fun h' st' sb => ?_
    have I1 : Inv X pins σ H { s with heap := h' } := I.turned (t' := s.toks) (fun b o hb e => (sb.2 b hb).trans e) f0 f1 f3 f4 f5
    obtain ⟨o, e, c, d⟩ := id st'
    exact ⟨u, rfl, go_of (s := { s with heap := h' }) e c d (by decide) ⟨x, H, I1, ru, ⟨rfl, fun ys hy => by rw [I.tuple_inj hy hq]; exact hx⟩, st', fun b hb => (hf b hb).1⟩⟩
  done := by
    intro X hP hw hK hc i pins s σ H E I hf st hg
    subst hP hw hK
    obtain ⟨xs, hq, hx⟩ := hg
    obtain ⟨its, rv, p, hz⟩ := I.tuple hq
    obtain ⟨f0, f1, f2, f3, f4, f5⟩ := hf it (by simp)
    have hl := rv.length
    exact wpAny_pyNext_tuple_end (I.ok.hd hc) st (show s.heap.IsTuple a its.toArray from p) (by simp; omega) fun h' eb => ⟨rfl, I.turned (t' := s.toks) (fun b o hb e => eb b o hb e) f0 f1 f3 f4 f5⟩
  self := fun _ _ _ _ _ st h => wpAny_pyIter_tupleiter st h
theorem turn_range {P : Program} {w : World} {K : PySem.W.Frag} {tg : Expr} (it : Addr) (lo : Int) (n : Nat) : Turn P w K tg (Itr lo n) [it] it (fun i h => IsRangeIter h it (lo + (i : Nat) * 1) ((n : Int) - (i : Nat)) 1) where
  mem := by simp
  obj := fun i h st b hb => by
    have e : b = it := by simpa using hb
    subst e
    exact ⟨_, st, fun v z => by
      have z' : Data.fields _ = Data.cell v := z
      cases z'⟩
  keep := fun i h h' st k => k it (by simp) _ st
  item := by
    intro X hP hw hK hc i pins s σ H E I hf st hg
    subst hP hw hK
    obtain ⟨f0, f1, f2, f3, f4, f5⟩ := hf it (by simp)
    have W := Walks.range (prog := X.prog) (w := X.w) (I.ok.hd hc) it lo 1 n
    refine W.item i s _ _ hg st fun v h' tk hv st' kk => ?_
    obtain ⟨t, rfl⟩ := hv
    have I1 : Inv X pins σ H { s with heap := h', toks := tk } := I.turned (fun b o hb e => kk b o (by simpa using hb) e) f0 f1 f3 f4 f5
    refine ⟨_, rfl, go_of (s := { s with heap := h', toks := tk }) (n := "range_iterator") st' rfl rfl (by decide) ⟨.int (lo + i), H, I1, ⟨t, ?_⟩, ⟨rfl, rfl⟩, st', fun b hb => (hf b hb).1⟩⟩
    rw [Int.mul_one]
  done := by
    intro X hP hw hK hc i pins s σ H E I hf st hg
    subst hP hw hK
    obtain ⟨f0, f1, f2, f3, f4, f5⟩ := hf it (by simp)
    exact wpAny_pyNext_range_end (I.ok.hd hc) st (by have : n ≤ i := hg; omega) fun h' eb => ⟨rfl, I.turned (t' := s.toks) (fun b o hb e => eb b o hb e) f0 f1 f3 f4 f5⟩
  self := fun _ _ _ _ _ st h => wpAny_pyIter_rangeiter st h
end L2

namespace L2
open PySem PySem.Spec PyProof.Rows
section
variable {X : Cx} {tg : Expr}
def iList (K : PySem.W.Frag) (tl : TE) : TI := fun σ H R => tl σ H fun x H1 => ∃ a, x = .ref a ∧ (∃ xs, SqL K H1 a xs) ∧ R (Itl K a) H1
def iTup (K : PySem.W.Frag) (tl : TE) : TI := fun σ H R => tl σ H fun x H1 => ∃ a, x = .ref a ∧ (∃ xs, SqT K H1 a xs) ∧ R (Itt K a) H1
theorem pi_list {l : Expr} {tl : TE} (hl : PE X l tl) : PI X tg l (iList X.K tl) := by
  intro pins s σ H R I h
  refine thn (hl pins s σ H _ I h) fun v s1 ⟨x, H1, I1, r1, q1⟩ => ?_
  obtain ⟨a, e, ⟨xs, hq⟩, q⟩ := q1
  subst e
  cases r1
  obtain ⟨its, rv, p, hz⟩ := I1.list hq
  refine wpAny_pyIter_list p.isList ?_
  refine ⟨s1.heap.objs.size, [s1.heap.objs.size], _, _, H1, rfl, I1.kept (t' := s1.toks) fun b o e => Heap.get?_push_of_some _ e, turn_list a _, ⟨_, Heap.get?_push_size _ rfl, rfl, rfl⟩, fun b hb => ?_, q⟩
  have e : b = s1.heap.objs.size := by simpa using hb
  subst e
  exact I1.fpOk (Nat.le_refl _) (I1.hok.fresh (Nat.le_refl _))
theorem pi_tup {l : Expr} {tl : TE} (hl : PE X l tl) : PI X tg l (iTup X.K tl) := by
  intro pins s σ H R I h
  refine thn (hl pins s σ H _ I h) fun v s1 ⟨x, H1, I1, r1, q1⟩ => ?_
  obtain ⟨a, e, ⟨xs, hq⟩, q⟩ := q1
  subst e
  cases r1
  obtain ⟨its, rv, p, hz⟩ := I1.tuple hq
  refine wpAny_pyIter_tuple (show s1.heap.IsTuple a its.toArray from p) ?_
  refine ⟨s1.heap.objs.size, [s1.heap.objs.size], _, _, H1, rfl, I1.kept (t' := s1.toks) fun b o e => Heap.get?_push_of_some _ e, turn_tuple a _, ⟨_, Heap.get?_push_size _ rfl, rfl, rfl⟩, fun b hb => ?_, q⟩
  have e : b = s1.heap.objs.size := by simpa using hb
  subst e
  exact I1.fpOk (Nat.le_refl _) (I1.hok.fresh (Nat.le_refl _))
/-- a range object just made, walked -/
theorem range_it {pins : List (Addr × Obj)} {σ : St} {H : Hp} {s : Shared} {R : It → Hp → Prop} {E : Value → Shared → Prop} {lo hi : Int} {t u v : Tok} {tk : Nat} (I : Inv X pins σ H s) (h1 : -(2 ^ 62) ≤ lo) (h2 : lo < 2 ^ 62) (h3 : -(2 ^ 62) ≤ hi) (h4 : hi < 2 ^ 62)
    (q : R (Itr lo (hi - lo).toNat) H) : wpAny (model X.prog X.w) X.A (pyIter (.ref s.heap.objs.size)) (PIE X pins σ tg R) E { s with heap := s.heap.push { cls := .type "range", data := .fields #[.int lo t, .int hi u, .int 1 v] }, toks := tk } := by
  refine wpAny_pyIter_range (IsRange.new ..) (small_one h1 h2 h3 h4) ?_
  have I1 : Inv X pins σ H { s with heap := s.heap.push { cls := .type "range", data := .fields #[.int lo t, .int hi u, .int 1 v] }, toks := tk } := I.kept fun b o e => Heap.get?_push_of_some _ e
  refine ⟨(s.heap.push { cls := .type "range", data := .fields #[.int lo t, .int hi u, .int 1 v] }).objs.size, [(s.heap.push { cls := .type "range", data := .fields #[.int lo t, .int hi u, .int 1 v] }).objs.size], _, _, H, rfl,
    I1.kept (t' := tk) fun b o e => Heap.get?_push_of_some _ e, turn_range _ lo (hi - lo).toNat, ?_, fun b hb => ?_, q⟩
  · have e1 : lo + ((0 : Nat) : Int) * 1 = lo := by simp
    have e2 : (((hi - lo).toNat : Nat) : Int) - ((0 : Nat) : Int) = Builtin.Range.rangeSize lo hi 1 := by rw [rangeSize_one]; split <;> omega
    show IsRangeIter _ _ (lo + ((0 : Nat) : Int) * 1) ((((hi - lo).toNat : Nat) : Int) - ((0 : Nat) : Int)) 1
    rw [e1, e2]
    exact Heap.get?_push_size _ rfl
  · have e : b = (s.heap.push { cls := .type "range", data := .fields #[.int lo t, .int hi u, .int 1 v] }).objs.size := by simpa using hb
    subst e
    exact I1.fpOk (Nat.le_refl _) (I1.hok.fresh (Nat.le_refl _))
def iRng1 (ta : TA) : TI := fun σ H R => ta σ H fun vs H1 => ∃ j : Int, vs = [.int j] ∧ -(2 ^ 62) ≤ j ∧ j < 2 ^ 62 ∧ R (Itr 0 j.toNat) H1
def iRng2 (ta : TA) : TI := fun σ H R => ta σ H fun vs H1 => ∃ i j : Int, vs = [.int i, .int j] ∧ (-(2 ^ 62) ≤ i ∧ i < 2 ^ 62 ∧ -(2 ^ 62) ≤ j ∧ j < 2 ^ 62) ∧ R (Itr i (j - i).toNat) H1
theorem pi_range1 {a : Expr} {ta : TA} {p pos : Pos} (hg : Gl X "range") (hm : X.mg "range" = none) (ha : PA X [a] ta) (hs : starEach [a] X.env = [(false, eval a X.env)] := by rfl) : PI X tg (.Call (.Name "range" p) [a] [] pos) (iRng1 ta) := by
  intro pins s σ H R I h
  refine Call_ (ld_blt I hg hm boot_range (PyProof.Rows.callWith_type1 (thn (ha pos pins s σ H _ I h) fun us s1 ⟨vs, H1, I1, r1, q1⟩ => ?_) hs rfl))
  obtain ⟨j, e, q1, q2, q⟩ := q1
  subst e
  cases r1 with
  | cons r rr =>
    cases rr
    obtain ⟨t, rfl⟩ := r
    exact call_range_1 (range_it I1 (by omega) (by omega) q1 q2 (by simpa using q))
theorem pi_range2 {a b : Expr} {ta : TA} {p pos : Pos} (hg : Gl X "range") (hm : X.mg "range" = none) (ha : PA X [a, b] ta) (hs : starEach [a, b] X.env = [(false, eval a X.env), (false, eval b X.env)] := by rfl) (hs2 : starEach [b] X.env = [(false, eval b X.env)] := by rfl) :
    PI X tg (.Call (.Name "range" p) [a, b] [] pos) (iRng2 ta) := by
  intro pins s σ H R I h
  refine Call_ (ld_blt I hg hm boot_range (PyProof.Rows.callWith_type1 (thn (ha pos pins s σ H _ I h) fun us s1 ⟨vs, H1, I1, r1, q1⟩ => ?_) (by rw [hs, hs2]) (by rw [hs2]; rfl)))
  obtain ⟨i, j, e, ⟨q1, q2, q3, q4⟩, q⟩ := q1
  subst e
  cases r1 with
  | cons r rr =>
    cases rr with
    | cons r' rr =>
      cases rr
      obtain ⟨t, rfl⟩ := r
      obtain ⟨t', rfl⟩ := r'
      exact call_range_2 (range_it I1 q1 q2 q3 q4 q)

/-! ### for -/
/-- W: the invariant by the turn and a measure; N: what the body is to reach -/
def tFor (wi : TI) (g : TG) (tb : TS) : TS := fun D σ H => wi σ H fun J H1 => ∃ W : Nat → Nat → St → Hp → Prop, (∃ m, W 0 m σ H1) ∧ ∀ i m σ H, W i m σ H →
  (J.stop i H ∧ D.nx σ H) ∨ (J.go i H ∧ ∃ N : St → Hp → Prop, (∀ σ' H', N σ' H' → ∃ m', m' < m ∧ W (i + 1) m' σ' H') ∧ ∀ x H', J.yld i H x H' → g x σ H' fun σ2 H2 => tb { D with nx := N, ct := N, bk := D.nx } σ2 H2)
/-- the records at fp as they stand -/
def pinsAt (fp : List Addr) (h : Heap) : List (Addr × Obj) := fp.filterMap fun b => (h.get? b).map fun o => (b, o)
theorem mem_pinsAt {fp : List Addr} {h : Heap} {b : Addr} {o : Obj} (hb : b ∈ fp) (e : h.get? b = some o) : (b, o) ∈ pinsAt fp h := List.mem_filterMap.mpr ⟨b, hb, by rw [e]; rfl⟩
theorem of_pinsAt {fp : List Addr} {h : Heap} {p : Addr × Obj} (hp : p ∈ pinsAt fp h) : p.1 ∈ fp ∧ h.get? p.1 = some p.2 := by
  obtain ⟨b, hb, e⟩ := List.mem_filterMap.mp hp
  cases q : h.get? b with
  | none => rw [q] at e; cases e
  | some o =>
    rw [q] at e
    have e' : (b, o) = p := Option.some.inj e
    subst e'
    exact ⟨hb, q⟩
theorem Inv.pinned {pins : List (Addr × Obj)} {σ : St} {H : Hp} {s : Shared} {fp : List Addr} (I : Inv X pins σ H s) (hf : ∀ b ∈ fp, FpOk X pins H b) (ho : ∀ b ∈ fp, ∃ o, s.heap.get? b = some o ∧ ∀ v, o.data ≠ .cell v) : Inv X (pins ++ pinsAt fp s.heap) σ H s :=
  I.pins_of fun p hp => (List.mem_append.mp hp).elim (fun z => I.pin p (List.mem_append_right _ z)) fun z => by
    obtain ⟨hb, e⟩ := of_pinsAt z
    obtain ⟨f0, f1, f2, _⟩ := hf p.1 hb
    obtain ⟨o, e', d⟩ := ho p.1 hb
    rw [e] at e'; cases e'
    exact ⟨e, f0, f1, f2, d⟩
theorem Inv.unpinned {pins pl : List (Addr × Obj)} {σ : St} {H : Hp} {s : Shared} (I : Inv X (pins ++ pl) σ H s) : Inv X pins σ H s := I.pins_of fun p hp => I.pin p (List.mem_append_right _ (List.mem_append_left _ hp))
theorem ps_for {iter : Expr} {body : List Stmt} {wi : TI} {g : TG} {tb : TS} {pos : Pos} (hp : PassesOwn (model X.prog X.w) X.A X.env X.xe) (hc : X.calm = true) (hi : PI X tg iter wi) (hg : PG X tg g) (hb : PSs X body tb)
    (hs : ∀ x, foldedSetIterable iter X.env x = pure x := by intro _; rfl) : PS X (.For tg iter body [] pos) (tFor wi g tb) := by
  intro pins s σ H D I h
  refine wpAny_For (thn (hi pins s σ H _ I h) fun v s1 h1 => thn h1 fun itv s2 h2 => ?_) hs
  obtain ⟨it, fp, tn, J, H2, e, I2, T, st2, f2, W, ⟨m0, w0⟩, turn⟩ := h2
  subst e
  -- what stays true of the iterator's objects through the loop
  have stat : ∀ {H' : Hp}, (∀ b ∈ fp, H' b = none) → ∀ b ∈ fp, FpOk X pins H' b := fun hn b hb => ⟨hn b hb, (f2 b hb).2⟩
  refine codeAny_forLoop_any (fun n s' => ∃ i σ' H', Inv X pins σ' H' s' ∧ tn i s'.heap ∧ (∀ b ∈ fp, H' b = none) ∧ W i n σ' H') ?_ m0 ⟨0, σ, H2, I2, st2, fun b hb => (f2 b hb).1, w0⟩
  rintro n s3 ⟨i, σ3, H3, I3, st3, fr3, w3⟩
  rcases turn i n σ3 H3 w3 with ⟨stop, qn⟩ | ⟨go, N, hN, step⟩
  · refine wpAny_passesOwn hp (thn (T.done X rfl rfl rfl hc i pins s3 σ3 H3 X.xe I3 (stat fr3) st3 stop) fun r s4 ⟨hr, I4⟩ => ?_)
    subst hr
    exact wpAny_execs_nil ⟨σ3, H3, I4, qn⟩
  · refine wpAny_passesOwn hp (thn (T.item X rfl rfl rfl hc i pins s3 σ3 H3 X.xe I3 (stat fr3) st3 go) fun r s4 ⟨u, hr, h4⟩ => ?_)
    subst hr
    refine wpAny_passesOwn hp (thn h4 fun _ s5 ⟨x, H5, I5, r5, y5, st5, fr5⟩ => ?_)
    have I5' := I5.pinned (stat fr5) (T.obj _ _ st5)
    refine wpAny_passesOwn hp (thn (hg _ s5 σ3 H5 x u _ I5' r5 (step x H5 y5)) fun _ s6 ⟨σ6, H6, I6, q6⟩ => ?_)
    refine wpAny_passesOwn hp (thn (hb _ s6 σ6 H6 _ I6 q6) fun f s7 q7 => ?_)
    have again : ∀ {σ7 : St} {H7 : Hp}, Inv X (pins ++ pinsAt fp s5.heap) σ7 H7 s7 → N σ7 H7 → ∃ m, m < n ∧ ∃ i σ' H', Inv X pins σ' H' s7 ∧ tn i s7.heap ∧ (∀ b ∈ fp, H' b = none) ∧ W i m σ' H' := fun {σ7 H7} I7 n7 => by
      obtain ⟨m', hm, w7⟩ := hN σ7 H7 n7
      refine ⟨m', hm, i + 1, σ7, H7, I7.unpinned, T.keep _ _ _ st5 fun b hb o e => (I7.pin (b, o) (List.mem_append_right _ (List.mem_append_right _ (mem_pinsAt hb e)))).1, fun b hb => ?_, w7⟩
      obtain ⟨o, e, d⟩ := T.obj _ _ st5 b hb
      exact (I7.pin (b, o) (List.mem_append_right _ (List.mem_append_right _ (mem_pinsAt hb e)))).2.1
    cases f with
    | next => obtain ⟨σ7, H7, I7, n7⟩ := q7; exact again I7 n7
    | cont => obtain ⟨σ7, H7, I7, n7⟩ := q7; exact again I7 n7
    | brk => obtain ⟨σ7, H7, I7, q7⟩ := q7; exact ⟨σ7, H7, I7.unpinned, q7⟩
    | ret v => obtain ⟨x7, σ7, H7, I7, r7, q7⟩ := q7; exact ⟨x7, σ7, H7, I7.unpinned, r7, q7⟩
end

/-! ### the forms one uses -/
/-- over a list that the body leaves as it is -/
theorem for_list {K : PySem.W.Frag} {a : Addr} {xs : List V} {g : TG} {tb : TS} {D : Ends} {σ : St} {H : Hp} (Pv : Nat → St → Hp → Prop) (h0 : Pv 0 σ H) (hl : ∀ i σ H, i ≤ xs.length → Pv i σ H → SqL K H a xs)
    (hs : ∀ i x σ H, xs[i]? = some x → Pv i σ H → g x σ H fun σ2 H2 => tb { D with nx := Pv (i + 1), ct := Pv (i + 1), bk := D.nx } σ2 H2) (hd : ∀ σ H, Pv xs.length σ H → D.nx σ H) :
    ∃ W : Nat → Nat → St → Hp → Prop, (∃ m, W 0 m σ H) ∧ ∀ i m σ H, W i m σ H →
      ((Itl K a).stop i H ∧ D.nx σ H) ∨ ((Itl K a).go i H ∧ ∃ N : St → Hp → Prop, (∀ σ' H', N σ' H' → ∃ m', m' < m ∧ W (i + 1) m' σ' H') ∧ ∀ x H', (Itl K a).yld i H x H' → g x σ H' fun σ2 H2 => tb { D with nx := N, ct := N, bk := D.nx } σ2 H2) := by
  refine ⟨fun i m σ H => m = xs.length - i ∧ i ≤ xs.length ∧ Pv i σ H, ⟨xs.length, by simp, Nat.zero_le _, h0⟩, ?_⟩
  rintro i m σ H ⟨rfl, hi, p⟩
  have q := hl i σ H hi p
  by_cases hlt : i < xs.length
  · refine .inr ⟨⟨xs, xs[i], q, by simp [hlt]⟩, Pv (i + 1), fun σ' H' p' => ⟨xs.length - (i + 1), by omega, rfl, hlt, p'⟩, fun x H' y => ?_⟩
    obtain ⟨e, y⟩ := y
    subst e
    exact hs i x σ _ (y xs q) p
  · have e : i = xs.length := by omega
    subst e
    exact .inl ⟨⟨xs, q, Nat.le_refl _⟩, hd σ H p⟩
theorem for_tup {K : PySem.W.Frag} {a : Addr} {xs : List V} {g : TG} {tb : TS} {D : Ends} {σ : St} {H : Hp} (Pv : Nat → St → Hp → Prop) (h0 : Pv 0 σ H) (hl : ∀ i σ H, i ≤ xs.length → Pv i σ H → SqT K H a xs)
    (hs : ∀ i x σ H, xs[i]? = some x → Pv i σ H → g x σ H fun σ2 H2 => tb { D with nx := Pv (i + 1), ct := Pv (i + 1), bk := D.nx } σ2 H2) (hd : ∀ σ H, Pv xs.length σ H → D.nx σ H) :
    ∃ W : Nat → Nat → St → Hp → Prop, (∃ m, W 0 m σ H) ∧ ∀ i m σ H, W i m σ H →
      ((Itt K a).stop i H ∧ D.nx σ H) ∨ ((Itt K a).go i H ∧ ∃ N : St → Hp → Prop, (∀ σ' H', N σ' H' → ∃ m', m' < m ∧ W (i + 1) m' σ' H') ∧ ∀ x H', (Itt K a).yld i H x H' → g x σ H' fun σ2 H2 => tb { D with nx := N, ct := N, bk := D.nx } σ2 H2) := by
  refine ⟨fun i m σ H => m = xs.length - i ∧ i ≤ xs.length ∧ Pv i σ H, ⟨xs.length, by simp, Nat.zero_le _, h0⟩, ?_⟩
  rintro i m σ H ⟨rfl, hi, p⟩
  have q := hl i σ H hi p
  by_cases hlt : i < xs.length
  · refine .inr ⟨⟨xs, xs[i], q, by simp [hlt]⟩, Pv (i + 1), fun σ' H' p' => ⟨xs.length - (i + 1), by omega, rfl, hlt, p'⟩, fun x H' y => ?_⟩
    obtain ⟨e, y⟩ := y
    subst e
    exact hs i x σ _ (y xs q) p
  · have e : i = xs.length := by omega
    subst e
    exact .inl ⟨⟨xs, q, Nat.le_refl _⟩, hd σ H p⟩
theorem for_range {lo : Int} {n : Nat} {g : TG} {tb : TS} {D : Ends} {σ : St} {H : Hp} (Pv : Nat → St → Hp → Prop) (h0 : Pv 0 σ H)
    (hs : ∀ i σ H, i < n → Pv i σ H → g (.int (lo + i)) σ H fun σ2 H2 => tb { D with nx := Pv (i + 1), ct := Pv (i + 1), bk := D.nx } σ2 H2) (hd : ∀ σ H, Pv n σ H → D.nx σ H) :
    ∃ W : Nat → Nat → St → Hp → Prop, (∃ m, W 0 m σ H) ∧ ∀ i m σ H, W i m σ H →
      ((Itr lo n).stop i H ∧ D.nx σ H) ∨ ((Itr lo n).go i H ∧ ∃ N : St → Hp → Prop, (∀ σ' H', N σ' H' → ∃ m', m' < m ∧ W (i + 1) m' σ' H') ∧ ∀ x H', (Itr lo n).yld i H x H' → g x σ H' fun σ2 H2 => tb { D with nx := N, ct := N, bk := D.nx } σ2 H2) := by
  refine ⟨fun i m σ H => m = n - i ∧ i ≤ n ∧ Pv i σ H, ⟨n, by simp, Nat.zero_le _, h0⟩, ?_⟩
  rintro i m σ H ⟨rfl, hi, p⟩
  by_cases hlt : i < n
  · refine .inr ⟨hlt, Pv (i + 1), fun σ' H' p' => ⟨n - (i + 1), by omega, rfl, hlt, p'⟩, fun x H' y => ?_⟩
    obtain ⟨e, y⟩ := y
    subst e y
    exact hs i σ _ hlt p
  · have e : i = n := by omega
    subst e
    exact .inl ⟨Nat.le_refl _, hd σ H p⟩
/-- while, by a word and a measure of the state -/
theorem while_by {c : TT} {tb : TS} {D : Ends} {σ : St} {H : Hp} (Pv : St → Hp → Prop) (μ : St → Hp → Nat) (h0 : Pv σ H)
    (hs : ∀ σ H, Pv σ H → c σ H fun b H1 => if b = true then tb { D with nx := fun σ' H' => Pv σ' H' ∧ μ σ' H' < μ σ H, ct := fun σ' H' => Pv σ' H' ∧ μ σ' H' < μ σ H, bk := D.nx } σ H1 else D.nx σ H1)
    (mono : ∀ σ H Q Q', (∀ b H1, Q b H1 → Q' b H1) → c σ H Q → c σ H Q') : tWhile c tb D σ H := by
  refine ⟨fun m σ H => m = μ σ H ∧ Pv σ H, ⟨_, rfl, h0⟩, ?_⟩
  rintro m σ H ⟨rfl, p⟩
  refine mono σ H _ _ (fun b H1 q => ?_) (hs σ H p)
  cases b with
  | true => exact ⟨_, fun σ' H' ⟨p', l⟩ => ⟨_, l, rfl, p'⟩, q⟩
  | false => exact q
end L2

namespace L2
open PySem PySem.Spec PyProof.Rows

abbrev R2 := V → V → Hp → VK → Prop
/-- a two-place operation on values: f is binaryOp op, inplaceOp op or compareOp op -/
def OpR (X : Cx) (f : Value → Value → Sem Value) (r : R2) : Prop :=
  ∀ (pins : List (Addr × Obj)) (s : Shared) (σ : St) (H : Hp) (x y : V) (v u : Value) (Q : VK), Inv X pins σ H s → RelV x v → RelV y u → r x y H Q →
    wpAny (model X.prog X.w) X.A (f v u) (EP X pins σ Q) X.xe s
/-- a one-place operation -/
def UnR (X : Cx) (f : Value → Sem Value) (r : V → Hp → VK → Prop) : Prop :=
  ∀ (pins : List (Addr × Obj)) (s : Shared) (σ : St) (H : Hp) (x : V) (v : Value) (Q : VK), Inv X pins σ H s → RelV x v → r x H Q →
    wpAny (model X.prog X.w) X.A (f v) (EP X pins σ Q) X.xe s
/-- a call of a value that is known (a builtin, a type) with values -/
def CallR (X : Cx) (f : Value) (r : List V → Hp → VK → Prop) : Prop :=
  ∀ (pins : List (Addr × Obj)) (s : Shared) (σ : St) (H : Hp) (xs : List V) (us : List Value) (Q : VK), Inv X pins σ H s → Vals xs us → r xs H Q →
    wpAny (model X.prog X.w) X.A (call f us) (EP X pins σ Q) X.xe s
/-- a value's truth -/
def TruR (X : Cx) (r : V → Hp → (Bool → Hp → Prop) → Prop) : Prop :=
  ∀ (pins : List (Addr × Obj)) (s : Shared) (σ : St) (H : Hp) (x : V) (v : Value) (Q : Bool → Hp → Prop), Inv X pins σ H s → RelV x v → r x H Q →
    wpAny (model X.prog X.w) X.A (truthy v) (TP X pins σ Q) X.xe s

def tOp (r : R2) (ta tb : TE) : TE := fun σ H Q => ta σ H fun x H1 => tb σ H1 fun y H2 => r x y H2 Q
def tUn (r : V → Hp → VK → Prop) (ta : TE) : TE := fun σ H Q => ta σ H fun x H1 => r x H1 Q
/-- ints in, under C, and a value out -/
def rI (C : Int → Int → Prop) (g : Int → Int → V) : R2 := fun x y H Q => ∃ i j, x = .int i ∧ y = .int j ∧ C i j ∧ Q (g i j) H
def rI0 (g : Int → Int → V) : R2 := fun x y H Q => ∃ i j, x = .int i ∧ y = .int j ∧ Q (g i j) H
def rU (g : Int → V) : V → Hp → VK → Prop := fun x H Q => ∃ i, x = .int i ∧ Q (g i) H

section
variable {X : Cx} {a b c : Expr} {ta tb tc : TE} {pos : Pos}

theorem binT (ha : PE X a ta) (hb : PE X b tb) {pins : List (Addr × Obj)} {s : Shared} {σ : St} {H : Hp} {R : V → V → Hp → Prop} (I : Inv X pins σ H s)
    (h : ta σ H fun x H1 => tb σ H1 fun y H2 => R x y H2) {Q : Value → Shared → Prop} {f : Value → Value → Sem Value}
    (hf : ∀ v u s2 x y H2, Inv X pins σ H2 s2 → RelV x v → RelV y u → R x y H2 → wpAny (model X.prog X.w) X.A (f v u) Q X.xe s2) :
    wpAny (model X.prog X.w) X.A (eval a X.env) (fun v s₁ => wpAny (model X.prog X.w) X.A (eval b X.env) (fun u s₂ => wpAny (model X.prog X.w) X.A (f v u) Q X.xe s₂) X.xe s₁) X.xe s := by
  refine thn (ha pins s σ H _ I h) fun v s1 ⟨x, H1, I1, r1, q1⟩ => ?_
  refine thn (hb pins s1 σ H1 _ I1 q1) fun u s2 ⟨y, H2, I2, r2, q2⟩ => ?_
  exact hf v u s2 x y H2 I2 r1 r2 q2

theorem pe_op {op : Operator} {r : R2} (ho : OpR X (binaryOp op) r) (ha : PE X a ta) (hb : PE X b tb) : PE X (.BinOp a op b pos) (tOp r ta tb) := by
  intro pins s σ H Q I h
  exact wpAny_BinOp (binT ha hb I h fun v u s2 x y H2 I2 rx ry q => ho pins s2 σ H2 x y v u Q I2 rx ry q)
theorem pe_un {op : UnaryOp} {r : V → Hp → VK → Prop} (ho : UnR X (unaryOp op) r) (ha : PE X a ta) : PE X (.UnaryOp op a pos) (tUn r ta) := by
  intro pins s σ H Q I h
  exact UnaryOp_ (thn (ha pins s σ H _ I h) fun v s1 ⟨x, H1, I1, r1, q1⟩ => ho pins s1 σ H1 x v Q I1 r1 q1)
/-- a op= e at a name: the name's slot i -/
theorem augR {op : Operator} {r : R2} (ho : OpR X (inplaceOp op) r) {pins : List (Addr × Obj)} {s : Shared} {σ : St} {H : Hp} {x y : V} {v u : Value} {Q : VK} (I : Inv X pins σ H s)
    (rx : RelV x v) (ry : RelV y u) (q : r x y H Q) : wpAny (model X.prog X.w) X.A (inplaceOp op v u) (EP X pins σ Q) X.xe s := ho pins s σ H x y v u Q I rx ry q

/-! ### ints -/
theorem opI {f : Value → Value → Sem Value} {C : Int → Int → Prop} {g : Int → Int → Int}
    (rule : ∀ (i j : Int) (t u : Tok) (s : Shared) (Q : Value → Shared → Prop) (E : Value → Shared → Prop), C i j → Q (.int (g i j) s.toks) { s with toks := s.toks + 1 } → wpAny (model X.prog X.w) X.A (f (.int i t) (.int j u)) Q E s) :
    OpR X f (rI C fun i j => .int (g i j)) := by
  intro pins s σ H x y v u Q I rx ry h
  obtain ⟨i, j, rfl, rfl, hc, q⟩ := h
  obtain ⟨t, rfl⟩ := rx
  obtain ⟨t', rfl⟩ := ry
  exact rule i j t t' s _ _ hc ⟨.int (g i j), H, I.tok _, ⟨_, rfl⟩, q⟩
theorem opI0 {f : Value → Value → Sem Value} {g : Int → Int → Int}
    (rule : ∀ (i j : Int) (t u : Tok) (s : Shared) (Q : Value → Shared → Prop) (E : Value → Shared → Prop), Q (.int (g i j) s.toks) { s with toks := s.toks + 1 } → wpAny (model X.prog X.w) X.A (f (.int i t) (.int j u)) Q E s) :
    OpR X f (rI0 fun i j => .int (g i j)) := by
  intro pins s σ H x y v u Q I rx ry h
  obtain ⟨i, j, rfl, rfl, q⟩ := h
  obtain ⟨t, rfl⟩ := rx
  obtain ⟨t', rfl⟩ := ry
  exact rule i j t t' s _ _ ⟨.int (g i j), H, I.tok _, ⟨_, rfl⟩, q⟩
theorem opB0 {f : Value → Value → Sem Value} {g : Int → Int → Bool}
    (rule : ∀ (i j : Int) (t u : Tok) (s : Shared) (Q : Value → Shared → Prop) (E : Value → Shared → Prop), Q (.bool (g i j)) s → wpAny (model X.prog X.w) X.A (f (.int i t) (.int j u)) Q E s) :
    OpR X f (rI0 fun i j => .bl (g i j)) := by
  intro pins s σ H x y v u Q I rx ry h
  obtain ⟨i, j, rfl, rfl, q⟩ := h
  obtain ⟨t, rfl⟩ := rx
  obtain ⟨t', rfl⟩ := ry
  exact rule i j t t' s _ _ ⟨.bl (g i j), H, I, rfl, q⟩

def CDiv (i j : Int) : Prop := 0 < j ∧ j < 1073741824
def CDivN (i j : Int) : Prop := j ≠ 0 ∧ j.natAbs < 1073741824
def CPow (i j : Int) : Prop := 0 ≤ j ∧ j ≤ 1000000 ∧ i.natAbs < 2 ^ 64
def CMul (i j : Int) : Prop := (-(2 ^ 64) < i ∧ i < 2 ^ 64) ∨ (-(2 ^ 64) < j ∧ j < 2 ^ 64)
theorem CMul.ok {i j : Int} (h : CMul i j) : IntMulOk i j := by
  rcases h with ⟨h1, h2⟩ | ⟨h1, h2⟩
  · exact .of_left (intBits_le_64 h1 h2)
  · exact .of_right (intBits_le_64 h1 h2)
theorem two_pow_nn (k : Nat) : (0 : Int) ≤ 2 ^ k := by
  rw [two_pow_cast]
  exact Int.natCast_nonneg _

theorem op_add : OpR X (binaryOp .Add) (rI0 fun i j => .int (i + j)) := opI0 fun _ _ _ _ _ _ _ q => add_int q
theorem op_sub : OpR X (binaryOp .Sub) (rI0 fun i j => .int (i - j)) := opI0 fun _ _ _ _ _ _ _ q => sub_int q
theorem op_mul : OpR X (binaryOp .Mult) (rI CMul fun i j => .int (i * j)) := opI fun _ _ _ _ _ _ _ hc q => mul_int q hc.ok
/-- // by a positive divisor -/
theorem op_fdiv : OpR X (binaryOp .FloorDiv) (rI CDiv fun i j => .int (i / j)) := opI fun i j _ _ _ _ _ hc q => by
  have h1 : (0 : Int) < j := hc.1
  have h2 : j < 1073741824 := hc.2
  exact floordiv_int (by omega) (by rw [Int.fdiv_eq_ediv_of_nonneg i (by omega)]; exact q) (.inl (PyProof.noPylong_small (by omega)))
theorem op_fdivN : OpR X (binaryOp .FloorDiv) (rI CDivN fun i j => .int (i.fdiv j)) := opI fun _ _ _ _ _ _ _ hc q => floordiv_int hc.1 q (.inl (PyProof.noPylong_small hc.2))
/-- % by a positive divisor of any size -/
theorem op_mod : OpR X (binaryOp .Mod) (rI (fun _ j => 0 < j) fun i j => .int (i % j)) := opI fun i j _ _ _ _ _ hc q => by
  have h1 : (0 : Int) < j := hc
  exact mod_int' (by omega) (by rw [Int.fmod_eq_emod_of_nonneg i (by omega)]; exact q)
theorem op_modN : OpR X (binaryOp .Mod) (rI (fun _ j => j ≠ 0) fun i j => .int (i.fmod j)) := opI fun _ _ _ _ _ _ _ hc q => mod_int' hc q
theorem op_pow : OpR X (binaryOp .Pow) (rI CPow fun i j => .int (i ^ j.toNat)) := opI fun _ _ _ _ _ _ _ hc q => pow_int_small hc.1 hc.2.1 hc.2.2 q
theorem op_shl : OpR X (binaryOp .LShift) (rI CPow fun i j => .int (i * 2 ^ j.toNat)) := opI fun _ _ _ _ _ _ _ hc q => lshift_int_small hc.1 hc.2.1 hc.2.2 q
theorem op_shr : OpR X (binaryOp .RShift) (rI (fun _ j => 0 ≤ j) fun i j => .int (i / 2 ^ j.toNat)) := opI fun i j _ _ _ _ _ hc q =>
  rshift_int hc (by rw [Int.fdiv_eq_ediv_of_nonneg i (two_pow_nn _)]; exact q)
theorem op_and : OpR X (binaryOp .BitAnd) (rI0 fun i j => .int (Builtin.bitAnd i j)) := opI0 fun _ _ _ _ _ _ _ q => and_int q
theorem op_or : OpR X (binaryOp .BitOr) (rI0 fun i j => .int (Builtin.bitOr i j)) := opI0 fun _ _ _ _ _ _ _ q => or_int q
theorem op_xor : OpR X (binaryOp .BitXor) (rI0 fun i j => .int (Builtin.bitXor i j)) := opI0 fun _ _ _ _ _ _ _ q => xor_int q

theorem iop_add : OpR X (inplaceOp .Add) (rI0 fun i j => .int (i + j)) := opI0 fun _ _ _ _ _ _ _ q => iadd_int q
theorem iop_sub : OpR X (inplaceOp .Sub) (rI0 fun i j => .int (i - j)) := opI0 fun _ _ _ _ _ _ _ q => isub_int q
theorem iop_mul : OpR X (inplaceOp .Mult) (rI CMul fun i j => .int (i * j)) := opI fun _ _ _ _ _ _ _ hc q => imul_int q hc.ok
theorem iop_fdiv : OpR X (inplaceOp .FloorDiv) (rI CDiv fun i j => .int (i / j)) := opI fun i j _ _ _ _ _ hc q => by
  have h1 : (0 : Int) < j := hc.1
  have h2 : j < 1073741824 := hc.2
  exact ifloordiv_int (by omega) (by rw [Int.fdiv_eq_ediv_of_nonneg i (by omega)]; exact q) (.inl (PyProof.noPylong_small (by omega)))
theorem iop_mod : OpR X (inplaceOp .Mod) (rI (fun _ j => 0 < j) fun i j => .int (i % j)) := opI fun i j _ _ _ _ _ hc q => by
  have h1 : (0 : Int) < j := hc
  exact imod_int (by omega) (by rw [Int.fmod_eq_emod_of_nonneg i (by omega)]; exact q)
theorem iop_shl : OpR X (inplaceOp .LShift) (rI CPow fun i j => .int (i * 2 ^ j.toNat)) := opI fun _ _ _ _ _ _ _ hc q => ilshift_int_small hc.1 hc.2.1 hc.2.2 q
theorem iop_shr : OpR X (inplaceOp .RShift) (rI (fun _ j => 0 ≤ j) fun i j => .int (i / 2 ^ j.toNat)) := opI fun i j _ _ _ _ _ hc q =>
  irshift_int hc (by rw [Int.fdiv_eq_ediv_of_nonneg i (two_pow_nn _)]; exact q)
theorem iop_and : OpR X (inplaceOp .BitAnd) (rI0 fun i j => .int (Builtin.bitAnd i j)) := opI0 fun _ _ _ _ _ _ _ q => iand_int q
theorem iop_or : OpR X (inplaceOp .BitOr) (rI0 fun i j => .int (Builtin.bitOr i j)) := opI0 fun _ _ _ _ _ _ _ q => ior_int q
theorem iop_xor : OpR X (inplaceOp .BitXor) (rI0 fun i j => .int (Builtin.bitXor i j)) := opI0 fun _ _ _ _ _ _ _ q => ixor_int q

theorem unI {f : Value → Sem Value} {g : Int → Int}
    (rule : ∀ (i : Int) (t : Tok) (s : Shared) (Q : Value → Shared → Prop) (E : Value → Shared → Prop), Q (.int (g i) s.toks) { s with toks := s.toks + 1 } → wpAny (model X.prog X.w) X.A (f (.int i t)) Q E s) :
    UnR X f (rU fun i => .int (g i)) := by
  intro pins s σ H x v Q I rx h
  obtain ⟨i, rfl, q⟩ := h
  obtain ⟨t, rfl⟩ := rx
  exact rule i t s _ _ ⟨.int (g i), H, I.tok _, ⟨_, rfl⟩, q⟩
theorem un_neg : UnR X (unaryOp .USub) (rU fun i => .int (-i)) := unI fun _ _ _ _ _ q => neg_int q
theorem un_inv : UnR X (unaryOp .Invert) (rU fun i => .int (Builtin.bitNot i)) := unI fun _ _ _ _ _ q => invert_int q

/-! ### bools among ints: n += (a < b) -/
theorem op_add_ib : OpR X (binaryOp .Add) (fun x y H Q => ∃ i k, x = .int i ∧ y = .bl k ∧ Q (.int (i + b2i k)) H) := by
  intro pins s σ H x y v u Q I rx ry h
  obtain ⟨i, k, rfl, rfl, q⟩ := h
  obtain ⟨t, rfl⟩ := rx
  cases ry
  exact add_int_bool ⟨.int (i + b2i k), H, I.tok _, ⟨_, rfl⟩, q⟩
end

/-! ### comparisons -/
/-- the scalars that == tells apart as data does -/
def scal : V → V → Bool
  | .non, .non => true | .non, .int _ => true | .int _, .non => true | .non, .bl _ => true | .bl _, .non => true | .non, .str _ => true | .str _, .non => true
  | .int _, .int _ => true | .bl _, .bl _ => true | .str _, .str _ => true | .byt _, .byt _ => true
  | .int _, .str _ => true | .str _, .int _ => true | .bl _, .str _ => true | .str _, .bl _ => true
  | _, _ => false
def rEq : R2 := fun x y H Q => scal x y = true ∧ Q (.bl (decide (x = y))) H
def rNe : R2 := fun x y H Q => scal x y = true ∧ Q (.bl (!decide (x = y))) H

theorem dec_int {i j : Int} : decide (V.int i = V.int j) = (i == j) := by
  rw [Bool.eq_iff_iff]
  simp
theorem dec_bl {i j : Bool} : decide (V.bl i = V.bl j) = (i == j) := by
  rw [Bool.eq_iff_iff]
  simp
theorem dec_str {i j : Str} : decide (V.str i = V.str j) = (i == j) := by
  rw [Bool.eq_iff_iff]
  simp
theorem dec_byt {i j : Array UInt8} : decide (V.byt i = V.byt j) = (i.toList == j.toList) := by
  rw [Bool.eq_iff_iff]
  cases i
  cases j
  simp

section
variable {X : Cx} {a b c : Expr} {ta tb tc : TE} {pos : Pos}
theorem fin_bl {pins : List (Addr × Obj)} {σ : St} {H : Hp} {s : Shared} {Q : VK} {k k' : Bool} (I : Inv X pins σ H s) (q : Q (.bl k) H) (e : k = k') : EP X pins σ Q (.bool k') s := by
  subst e
  exact ⟨.bl k, H, I, rfl, q⟩
theorem op_eq : OpR X (compareOp .Eq) rEq := by
  intro pins s σ H x y v u Q I rx ry h
  obtain ⟨hs, q⟩ := h
  cases x with
  | non =>
    cases rx
    cases y with
    | non => cases ry; exact PySem.EqNone.eq_none_none (fin_bl I q (by simp))
    | bl j => cases ry; exact PySem.EqNone.eq_none_bool (fin_bl I q (by simp))
    | int j => obtain ⟨t', rfl⟩ := ry; exact PySem.EqNone.eq_none_int (fin_bl I q (by simp))
    | str j => obtain ⟨t', rfl⟩ := ry; exact PySem.EqNone.eq_none_str (fin_bl I q (by simp))
    | _ => exact absurd (show false = true from hs) Bool.false_ne_true
  | bl i =>
    cases rx
    cases y with
    | non => cases ry; exact PySem.EqNone.eq_bool_none (fin_bl I q (by simp))
    | bl j => cases ry; exact eq_bool (fin_bl I q dec_bl)
    | str j => obtain ⟨t', rfl⟩ := ry; exact PySem.EqMixed.eq_bool_str (fin_bl I q (by simp))
    | _ => exact absurd (show false = true from hs) Bool.false_ne_true
  | int i =>
    obtain ⟨t, rfl⟩ := rx
    cases y with
    | non => cases ry; exact PySem.EqNone.eq_int_none (fin_bl I q (by simp))
    | int j => obtain ⟨t', rfl⟩ := ry; exact eq_int (fin_bl I q dec_int)
    | str j => obtain ⟨t', rfl⟩ := ry; exact PySem.EqMixed.eq_int_str (fin_bl I q (by simp))
    | _ => exact absurd (show false = true from hs) Bool.false_ne_true
  | str i =>
    obtain ⟨t, rfl⟩ := rx
    cases y with
    | non => cases ry; exact PySem.EqNone.eq_str_none (fin_bl I q (by simp))
    | bl j => cases ry; exact PySem.EqMixed.eq_str_bool (fin_bl I q (by simp))
    | int j => obtain ⟨t', rfl⟩ := ry; exact PySem.EqMixed.eq_str_int (fin_bl I q (by simp))
    | str j => obtain ⟨t', rfl⟩ := ry; exact eq_str (fin_bl I q dec_str)
    | _ => exact absurd (show false = true from hs) Bool.false_ne_true
  | byt i =>
    obtain ⟨t, rfl⟩ := rx
    cases y with
    | byt j => obtain ⟨t', rfl⟩ := ry; exact PySem.W.eq_bytes (fin_bl I q dec_byt)
    | _ => exact absurd (show false = true from hs) Bool.false_ne_true
  | _ => cases y <;> exact absurd (show false = true from hs) Bool.false_ne_true
theorem op_ne : OpR X (compareOp .NotEq) rNe := by
  intro pins s σ H x y v u Q I rx ry h
  obtain ⟨hs, q⟩ := h
  cases x with
  | non =>
    cases rx
    cases y with
    | non => cases ry; exact PySem.EqNone.ne_none_none (fin_bl I q (by simp))
    | bl j => cases ry; exact PySem.EqNone.ne_none_bool (fin_bl I q (by simp))
    | int j => obtain ⟨t', rfl⟩ := ry; exact PySem.EqNone.ne_none_int (fin_bl I q (by simp))
    | str j => obtain ⟨t', rfl⟩ := ry; exact PySem.EqNone.ne_none_str (fin_bl I q (by simp))
    | _ => exact absurd (show false = true from hs) Bool.false_ne_true
  | bl i =>
    cases rx
    cases y with
    | non => cases ry; exact PySem.EqNone.ne_bool_none (fin_bl I q (by simp))
    | bl j => cases ry; exact ne_bool (fin_bl I q (congrArg not dec_bl))
    | str j => obtain ⟨t', rfl⟩ := ry; exact PySem.EqMixed.ne_bool_str (fin_bl I q (by simp))
    | _ => exact absurd (show false = true from hs) Bool.false_ne_true
  | int i =>
    obtain ⟨t, rfl⟩ := rx
    cases y with
    | non => cases ry; exact PySem.EqNone.ne_int_none (fin_bl I q (by simp))
    | int j => obtain ⟨t', rfl⟩ := ry; exact ne_int (fin_bl I q (congrArg not dec_int))
    | str j => obtain ⟨t', rfl⟩ := ry; exact PySem.EqMixed.ne_int_str (fin_bl I q (by simp))
    | _ => exact absurd (show false = true from hs) Bool.false_ne_true
  | str i =>
    obtain ⟨t, rfl⟩ := rx
    cases y with
    | non => cases ry; exact PySem.EqNone.ne_str_none (fin_bl I q (by simp))
    | bl j => cases ry; exact PySem.EqMixed.ne_str_bool (fin_bl I q (by simp))
    | int j => obtain ⟨t', rfl⟩ := ry; exact PySem.EqMixed.ne_str_int (fin_bl I q (by simp))
    | str j => obtain ⟨t', rfl⟩ := ry; exact ne_str (fin_bl I q (congrArg not dec_str))
    | _ => exact absurd (show false = true from hs) Bool.false_ne_true
  | byt i =>
    obtain ⟨t, rfl⟩ := rx
    cases y with
    | byt j => obtain ⟨t', rfl⟩ := ry; exact PySem.W.ne_bytes (fin_bl I q (congrArg not dec_byt))
    | _ => exact absurd (show false = true from hs) Bool.false_ne_true
  | _ => cases y <;> exact absurd (show false = true from hs) Bool.false_ne_true

theorem op_lt : OpR X (compareOp .Lt) (rI0 fun i j => .bl (decide (i < j))) := opB0 fun _ _ _ _ _ _ _ q => lt_int q
theorem op_le : OpR X (compareOp .LtE) (rI0 fun i j => .bl (decide (i ≤ j))) := opB0 fun _ _ _ _ _ _ _ q => le_int q
theorem op_gt : OpR X (compareOp .Gt) (rI0 fun i j => .bl (decide (j < i))) := opB0 fun _ _ _ _ _ _ _ q => gt_int q
theorem op_ge : OpR X (compareOp .GtE) (rI0 fun i j => .bl (decide (j ≤ i))) := opB0 fun _ _ _ _ _ _ _ q => ge_int q
theorem op_lt_str : OpR X (compareOp .Lt) (fun x y H Q => ∃ i j, x = .str i ∧ y = .str j ∧ Q (.bl (decide (i.cps.toList < j.cps.toList))) H) := by
  intro pins s σ H x y v u Q I rx ry h
  obtain ⟨i, j, rfl, rfl, q⟩ := h
  obtain ⟨t, rfl⟩ := rx
  obtain ⟨t', rfl⟩ := ry
  exact lt_str (fin_bl I q rfl)
/-- the one string within the other -/
theorem op_in_str : OpR X (compareOp .In) (fun x y H Q => ∃ i j, x = .str i ∧ y = .str j ∧ Q (.bl (!(Builtin.Str.occurrences j i 0 j.length 1).isEmpty)) H) := by
  intro pins s σ H x y v u Q I rx ry h
  obtain ⟨i, j, rfl, rfl, q⟩ := h
  obtain ⟨t, rfl⟩ := rx
  obtain ⟨t', rfl⟩ := ry
  exact in_str (fin_bl I q rfl)

/-- is None, is not None: the right side a value none -/
theorem op_isN : OpR X (compareOp .Is) (fun x y H Q => y = .non ∧ Q (.bl (decide (x = .non))) H) := by
  intro pins s σ H x y v u Q I rx ry h
  obtain ⟨rfl, q⟩ := h
  cases ry
  refine is_none_gen (fin_bl I q ?_)
  cases x <;> first
    | (cases rx; rfl)
    | (obtain ⟨t, rfl⟩ := rx; rfl)
theorem op_notN : OpR X (compareOp .IsNot) (fun x y H Q => y = .non ∧ Q (.bl (!decide (x = .non))) H) := by
  intro pins s σ H x y v u Q I rx ry h
  obtain ⟨rfl, q⟩ := h
  cases ry
  refine isnot_none_gen (fin_bl I q ?_)
  cases x <;> first
    | (cases rx; rfl)
    | (obtain ⟨t, rfl⟩ := rx; rfl)

theorem op_notin_str : OpR X (compareOp .NotIn) (fun x y H Q => ∃ i j, x = .str i ∧ y = .str j ∧ Q (.bl (!(!(Builtin.Str.occurrences j i 0 j.length 1).isEmpty))) H) := by
  intro pins s σ H x y v u Q I rx ry h
  obtain ⟨i, j, rfl, rfl, q⟩ := h
  obtain ⟨t, rfl⟩ := rx
  obtain ⟨t', rfl⟩ := ry
  exact notIn_str (fin_bl I q rfl)
/-- is, is not of two objects that are tracked lists or instances -/
def isObj : HO → Bool
  | .lst _ => true
  | .ins _ _ _ => true
  | _ => false
theorem obj_there {pins : List (Addr × Obj)} {s : Shared} {σ : St} {H : Hp} {a : Addr} {o : HO} (I : Inv X pins σ H s) (h : H a = some o) (p : isObj o = true) : ∃ ob, s.heap.get? a = some ob ∧ ob.cls ≠ .type "tuple" := by
  cases o with
  | lst xs =>
    obtain ⟨_, its, n, _, e⟩ : xs.length ≤ sizeLine ∧ ∃ (its : List Value) (n : Nat), Vals xs its ∧ s.heap.get? a = some { cls := .type "list", data := .seq its.toArray n } := I.hok a _ h
    exact ⟨_, e, (by show Value.type "list" ≠ .type "tuple"; decide +kernel)⟩
  | ins C dx fs =>
    have x := I.hok a _ h
    obtain ⟨_, _, _, e, _⟩ := x
    exact ⟨_, e, (by show Value.ref C ≠ .type "tuple"; exact fun z => by cases z)⟩
  | _ => exact absurd (show false = true from p) Bool.false_ne_true
theorem op_is_ref : OpR X (compareOp .Is) (fun x y H Q => ∃ a b oa ob, x = .ref a ∧ y = .ref b ∧ H a = some oa ∧ isObj oa = true ∧ H b = some ob ∧ isObj ob = true ∧ Q (.bl (decide (a = b))) H) := by
  intro pins s σ H x y v u Q I rx ry h
  obtain ⟨a, b, oa, ob, rfl, rfl, ha, pa, hb, pb, q⟩ := h
  cases rx
  cases ry
  obtain ⟨o1, e1, n1⟩ := obj_there I ha pa
  obtain ⟨o2, e2, _⟩ := obj_there I hb pb
  by_cases z : a = b
  · subst z
    exact wpAny_is_ref_self (fin_bl I q (by simp))
  · exact wpAny_is_ref_other z e1 e2 n1 (fin_bl I q (by simp [z]))
theorem op_isnot_ref : OpR X (compareOp .IsNot) (fun x y H Q => ∃ a b oa ob, x = .ref a ∧ y = .ref b ∧ H a = some oa ∧ isObj oa = true ∧ H b = some ob ∧ isObj ob = true ∧ Q (.bl (!decide (a = b))) H) := by
  intro pins s σ H x y v u Q I rx ry h
  obtain ⟨a, b, oa, ob, rfl, rfl, ha, pa, hb, pb, q⟩ := h
  cases rx
  cases ry
  obtain ⟨o1, e1, n1⟩ := obj_there I ha pa
  obtain ⟨o2, e2, _⟩ := obj_there I hb pb
  by_cases z : a = b
  · subst z
    exact wpAny_isNot_ref_self (fin_bl I q (by simp))
  · exact wpAny_isNot_ref_other z e1 e2 n1 (fin_bl I q (by simp [z]))

/-- two rules for one operation: by cases -/
theorem OpR.or {f : Value → Value → Sem Value} {r r' : R2} (h : OpR X f r) (h' : OpR X f r') : OpR X f (fun x y H Q => r x y H Q ∨ r' x y H Q) := by
  intro pins s σ H x y v u Q I rx ry q
  rcases q with q | q
  · exact h pins s σ H x y v u Q I rx ry q
  · exact h' pins s σ H x y v u Q I rx ry q

theorem nomark (b : Expr) {op : CmpOp} (h : op ≠ .In := by decide) (h2 : op ≠ .NotIn := by decide) : behindInMarks op b = false := by
  have e1 : (op == CmpOp.In) = false := by cases op <;> first | rfl | exact absurd rfl h
  have e2 : (op == CmpOp.NotIn) = false := by cases op <;> first | rfl | exact absurd rfl h2
  cases b <;> simp [behindInMarks, e1, e2]
/-- a comparison as a value; hm: nomark b, or (for in, not in) by with_unfolding_all rfl -/
theorem pe_cmpR {op : CmpOp} {r : R2} (ho : OpR X (compareOp op) r) (ha : PE X a ta) (hb : PE X b tb) (hm : behindInMarks op b = false) : PE X (.Compare a [op] [b] pos) (tOp r ta tb) := by
  intro pins s σ H Q I h
  exact wpAny_Compare1 (binT ha hb I h fun v u s2 x y H2 I2 rx ry q => ho pins s2 σ H2 x y v u Q I2 rx ry q) hm
/-- a reading of a value as a test -/
def tTest (t : TE) : TT := fun σ H Q => t σ H fun x H' => ∃ k, x = .bl k ∧ Q k H'
theorem pt_cmpR {op : CmpOp} {r : R2} (ho : OpR X (compareOp op) r) (ha : PE X a ta) (hb : PE X b tb) (hm : behindInMarks op b = false) : PT X (.Compare a [op] [b] pos) (tTest (tOp r ta tb)) := by
  intro pins s σ H Q I h
  refine wpAny_isTrue_Compare1 (thn (ha pins s σ H _ I h) fun v s1 ⟨x, H1, I1, r1, q1⟩ => thn (hb pins s1 σ H1 _ I1 q1) fun u s2 ⟨y, H2, I2, r2, q2⟩ =>
    thn (ho pins s2 σ H2 x y v u _ I2 r1 r2 q2) fun c s3 ⟨z, H3, I3, r3, k, e, q3⟩ => ?_) hm
  subst e
  cases r3
  exact wpAny_truthy_bool ⟨H3, I3, q3⟩
/-- a op1 b op2 c -/
def tChain (r r' : R2) (ta tb tc : TE) : TE := fun σ H Q => ta σ H fun x H1 => tb σ H1 fun y H2 => r x y H2 fun z H3 => ∃ k, z = .bl k ∧
  (if k = true then tc σ H3 fun w' H4 => r' y w' H4 Q else Q (.bl false) H3)
theorem pe_chain {op op' : CmpOp} {r r' : R2} (ho : OpR X (compareOp op) r) (ho' : OpR X (compareOp op') r') (ha : PE X a ta) (hb : PE X b tb) (hc : PE X c tc)
    (hm : lastMarks [op, op'] [b, c] = false := by with_unfolding_all rfl) : PE X (.Compare a [op, op'] [b, c] pos) (tChain r r' ta tb tc) := by
  intro pins s σ H Q I h
  refine Compare_chain (thn (ha pins s σ H _ I h) fun v s1 ⟨x, H1, I1, r1, q1⟩ => chain_link (thn (hb pins s1 σ H1 _ I1 q1) fun u s2 ⟨y, H2, I2, r2, q2⟩ =>
    thn (ho pins s2 σ H2 x y v u _ I2 r1 r2 q2) fun d s3 ⟨z, H3, I3, r3, k, e, q3⟩ => ?_)) hm
  subst e
  cases r3
  refine wpAny_truthy_bool ?_
  cases k with
  | false => exact ite_ff ⟨.bl false, H3, I3, rfl, q3⟩
  | true => exact ite_tt (chain_last (thn (hc pins s3 σ H3 _ I3 q3) fun w' s4 ⟨z', H4, I4, r4, q4⟩ => ho' pins s4 σ H4 y z' u w' Q I4 r2 r4 q4))
theorem pt_chain {op op' : CmpOp} {r r' : R2} (ho : OpR X (compareOp op) r) (ho' : OpR X (compareOp op') r') (ha : PE X a ta) (hb : PE X b tb) (hc : PE X c tc)
    (hm : lastMarks [op, op'] [b, c] = false := by with_unfolding_all rfl) : PT X (.Compare a [op, op'] [b, c] pos) (tTest (tChain r r' ta tb tc)) := by
  intro pins s σ H Q I h
  refine isTrue_chain (thn (ha pins s σ H _ I h) fun v s1 ⟨x, H1, I1, r1, q1⟩ => test_link (thn (hb pins s1 σ H1 _ I1 q1) fun u s2 ⟨y, H2, I2, r2, q2⟩ =>
    thn (ho pins s2 σ H2 x y v u _ I2 r1 r2 q2) fun d s3 ⟨z, H3, I3, r3, k, e, q3⟩ => ?_)) hm
  subst e
  cases r3
  refine wpAny_truthy_bool ?_
  cases k with
  | false =>
    obtain ⟨k', e', q'⟩ := q3
    cases e'
    exact ite_ff ⟨H3, I3, q'⟩
  | true =>
    refine ite_tt (test_last (thn (hc pins s3 σ H3 _ I3 q3) fun w' s4 ⟨z', H4, I4, r4, q4⟩ => thn (ho' pins s4 σ H4 y z' u w' _ I4 r2 r4 q4) fun d' s5 ⟨z2, H5, I5, r5, k2, e2, q5⟩ => ?_))
    subst e2
    cases r5
    exact wpAny_truthy_bool ⟨H5, I5, q5⟩

/-! ### truth -/
/-- a value's truth by the abstract heap -/
def TruV (K : PySem.W.Frag) (x : V) (H : Hp) (k : Bool) : Prop :=
  match x with
  | .non => k = false
  | .bl b => k = b
  | .int i => k = (i != 0)
  | .str y => y.length ≤ sizeLine ∧ k = ((y.length : Int) != 0)
  | .byt y => y.size ≤ sizeLine ∧ k = ((y.size : Int) != 0)
  | .ref p => (∃ xs, SqL K H p xs ∧ k = !xs.isEmpty) ∨ (∃ xs, SqT K H p xs ∧ k = !xs.isEmpty) ∨ ∃ kvs, H p = some (.dK kvs) ∧ k = !kvs.isEmpty
  | _ => False
theorem isEmpty_kv {κ : Type} {kvs : List (κ × V)} {vs : List (κ × Value)} (r : KV kvs vs) : (!vs.isEmpty) = !kvs.isEmpty := by
  cases r <;> rfl
theorem isEmpty_of {xs : List V} {its : List Value} (r : Vals xs its) : (!its.toArray.isEmpty) = !xs.isEmpty := by
  cases r <;> simp
theorem line63 : (sizeLine : Nat) < 2 ^ 63 := by rw [sizeLine_eq]; decide
theorem tru_ok : TruR X (fun x H Q => ∃ k, TruV X.K x H k ∧ Q k H) := by
  intro pins s σ H x v Q I rx h
  obtain ⟨k, e, q⟩ := h
  have hl := line63
  have hs : sizeLine = 16777216 := sizeLine_eq
  cases x with
  | non =>
    cases rx
    have e' : k = false := e
    subst e'
    exact truthy_none ⟨H, I, q⟩
  | bl b =>
    cases rx
    have e' : k = b := e
    subst e'
    exact wpAny_truthy_bool ⟨H, I, q⟩
  | int i =>
    obtain ⟨t, rfl⟩ := rx
    have e' : k = (i != 0) := e
    subst e'
    exact PySem.P.truthy_int ⟨H, I, q⟩
  | str y =>
    obtain ⟨t, rfl⟩ := rx
    obtain ⟨hy, e'⟩ : y.length ≤ sizeLine ∧ k = ((y.length : Int) != 0) := e
    subst e'
    exact PySem.P.truthy_str (by omega) ⟨H, I.tok _, q⟩
  | byt y =>
    obtain ⟨t, rfl⟩ := rx
    obtain ⟨hy, e'⟩ : y.size ≤ sizeLine ∧ k = ((y.size : Int) != 0) := e
    subst e'
    exact PySem.W.truthy_bytes (by omega) ⟨H, I.tok _, q⟩
  | ref p =>
    cases rx
    have e' : (∃ xs, SqL X.K H p xs ∧ k = !xs.isEmpty) ∨ (∃ xs, SqT X.K H p xs ∧ k = !xs.isEmpty) ∨ ∃ kvs, H p = some (.dK kvs) ∧ k = !kvs.isEmpty := e
    rcases e' with ⟨xs, hx, e'⟩ | ⟨xs, hx, e'⟩ | ⟨kvs, hx, e'⟩
    · subst e'
      obtain ⟨its, r, pl, hz⟩ := I.list hx
      have hlen := r.length
      exact wpAny_truthy_list pl.isList (by simp only [List.size_toArray]; omega) ⟨H, I.tok _, by rw [isEmpty_of r]; exact q⟩
    · subst e'
      obtain ⟨its, r, pl, hz⟩ := I.tuple hx
      have hlen := r.length
      exact truthy_tuple pl (by simp only [List.size_toArray]; omega) ⟨H, I.tok _, by rw [isEmpty_of r]; exact q⟩
    · subst e'
      obtain ⟨hz, hS, vs, r, m⟩ : kvs.length ≤ sizeLine ∧ (p == sysModules) = false ∧ ∃ vs, KV kvs vs ∧ s.heap.DictOf (mixKind X.prog X.w) p vs := I.hok p _ hx
      have hlen : kvs.length = vs.length := Paired.length r
      exact wpAny_truthy_dict hS m (by omega) ⟨H, I.tok _, by rw [isEmpty_kv r]; exact q⟩
  | _ => exact (show False from e).elim
/-- any expression whose test is its value's truth (a name, a call, a subscript, a field ..: he by fun _ => rfl) -/
theorem pt_truth (ha : PE X a ta) (he : ∀ whole, isTrue a X.env whole = (do let v ← whole; standAt a.pos; holding [v] (truthy v))) :
    PT X a (fun σ H Q => ta σ H fun x H' => ∃ k, TruV X.K x H' k ∧ Q k H') := by
  intro pins s σ H Q I h
  exact isTrue_plain (thn (ha pins s σ H _ I h) fun v s1 ⟨x, H1, I1, r1, q1⟩ => tru_ok pins s1 σ H1 x v Q I1 r1 q1) (he _)

/-! ### strs and bytes -/
theorem pe_byt {x : List UInt8} {k : Nat} : PE X (.Constant (.bytes x) k pos) (fun _ H Q => Q (.byt x.toArray) H) := fun _ _ _ H _ I h => PySem.W.Constant_bytes ⟨.byt x.toArray, H, I.tok _, ⟨_, rfl⟩, h⟩
theorem op_add_str : OpR X (binaryOp .Add) (fun x y H Q => ∃ i j, x = .str i ∧ y = .str j ∧ i.length + j.length ≤ sizeLine ∧ Q (.str (i ++ j)) H) := by
  intro pins s σ H x y v u Q I rx ry h
  obtain ⟨i, j, rfl, rfl, hz, q⟩ := h
  obtain ⟨t, rfl⟩ := rx
  obtain ⟨t', rfl⟩ := ry
  exact add_str (fun t' tk => ⟨.str (i ++ j), H, I.tok _, ⟨_, rfl⟩, q⟩) hz
theorem iop_add_str : OpR X (inplaceOp .Add) (fun x y H Q => ∃ i j, x = .str i ∧ y = .str j ∧ i.length + j.length ≤ sizeLine ∧ Q (.str (i ++ j)) H) := by
  intro pins s σ H x y v u Q I rx ry h
  obtain ⟨i, j, rfl, rfl, hz, q⟩ := h
  obtain ⟨t, rfl⟩ := rx
  obtain ⟨t', rfl⟩ := ry
  exact iadd_str (fun t' tk => ⟨.str (i ++ j), H, I.tok _, ⟨_, rfl⟩, q⟩) hz
theorem op_add_byt : OpR X (binaryOp .Add) (fun x y H Q => ∃ i j, x = .byt i ∧ y = .byt j ∧ i.size + j.size ≤ 16777216 ∧ Q (.byt (i ++ j)) H) := by
  intro pins s σ H x y v u Q I rx ry h
  obtain ⟨i, j, rfl, rfl, hz, q⟩ := h
  obtain ⟨t, rfl⟩ := rx
  obtain ⟨t', rfl⟩ := ry
  exact PySem.W.KBy.add_bytes hz (fun t' tk => ⟨.byt (i ++ j), H, I.tok _, ⟨_, rfl⟩, q⟩)

def PlainIxT (b : Expr) : Prop := ∀ o i, subscripted b false o i = operate [o, i] (getItem o i)
/-- s[i], 0 ≤ i < len -/
theorem pe_item_str (ha : PE X a ta) (hb : PE X b tb) (hs : PlainIxT b) :
    PE X (.Subscript a b pos) (tOp (fun x y H Q => ∃ z i c, x = .str z ∧ y = .int i ∧ 0 ≤ i ∧ i < 2 ^ 63 ∧ i < z.length ∧ z.cps[i.toNat]? = some c ∧ Q (.str ⟨#[c]⟩) H) ta tb) := by
  intro pins s σ H Q I h
  refine Subscript_ (binT ha hb I h fun v u s2 x y H2 I2 rx ry q => ?_)
  obtain ⟨z, i, c, rfl, rfl, h0, h63, h1, hc, q⟩ := q
  obtain ⟨t, rfl⟩ := rx
  obtain ⟨t', rfl⟩ := ry
  have e : seqIndex? i z.length = some i.toNat := PySem.StrLaws.seqIndex_nonneg h0 h1
  exact tail_any (typeIs_str s2 z t) slot_str_getitem.lookup (getItem_str (c := c) (by
    have e1 : decide (i < -(2 ^ 63 : Int)) = false := decide_eq_false (by omega)
    have e2 : decide (i ≥ 2 ^ 63) = false := decide_eq_false (by omega)
    rw [e1, e2] <;> rfl) (by rw [e]; exact hc) ⟨.str ⟨#[c]⟩, H2, I2.tok _, ⟨_, rfl⟩, q⟩) (hs _ _)
/-- b[i], 0 ≤ i < len -/
theorem pe_item_byt (ha : PE X a ta) (hb : PE X b tb) (hs : PlainIxT b) :
    PE X (.Subscript a b pos) (tOp (fun x y H Q => ∃ (z : List UInt8) (i : Int), x = .byt z.toArray ∧ y = .int i ∧ z.length ≤ sizeLine ∧ 0 ≤ i ∧ i < z.length ∧ Q (.int ((z.getD i.toNat 0).toNat : Nat)) H) ta tb) := by
  intro pins s σ H Q I h
  refine Subscript_ (binT ha hb I h fun v u s2 x y H2 I2 rx ry q => ?_)
  obtain ⟨z, i, rfl, rfl, hz, h0, h1, q⟩ := q
  obtain ⟨t, rfl⟩ := rx
  obtain ⟨t', rfl⟩ := ry
  have hl : sizeLine = 16777216 := sizeLine_eq
  exact tail_any (PySem.W.typeIs_bytes s2 z.toArray t) PySem.W.FB.slot_bytes_getitem.lookup (PySem.W.getItem_bytes (by omega) h0 h1 ⟨.int ((z.getD i.toNat 0).toNat : Nat), H2, I2.tok _, ⟨_, rfl⟩, q⟩) (hs _ _)

/-! ### scalar builtins, by CallR -/
theorem vals1 {x : V} {us : List Value} (r : Vals [x] us) : ∃ u, us = [u] ∧ RelV x u := by
  cases r with
  | cons r1 r2 => cases r2; exact ⟨_, rfl, r1⟩
theorem vals2 {x y : V} {us : List Value} (r : Vals [x, y] us) : ∃ u w', us = [u, w'] ∧ RelV x u ∧ RelV y w' := by
  cases r with
  | cons r1 r2 =>
    cases r2 with
    | cons r3 r4 => cases r4; exact ⟨_, _, rfl, r1, r3⟩
theorem call_abs : CallR X (.builtin "abs") (fun xs H Q => ∃ i, xs = [.int i] ∧ Q (.int (if i < 0 then -i else i)) H) := by
  intro pins s σ H xs us Q I r h
  obtain ⟨i, rfl, q⟩ := h
  obtain ⟨u, rfl, t, rfl⟩ := vals1 r
  exact call_abs_int fun u tk => ⟨.int (if i < 0 then -i else i), H, I.tok _, ⟨_, rfl⟩, q⟩
theorem call_max2 (hc : X.calm = true) : CallR X (.builtin "max") (fun xs H Q => ∃ i j, xs = [.int i, .int j] ∧ Q (.int (if j > i then j else i)) H) := by
  intro pins s σ H xs us Q I r h
  obtain ⟨i, j, rfl, q⟩ := h
  obtain ⟨u, w', rfl, ⟨t, rfl⟩, ⟨t', rfl⟩⟩ := vals2 r
  refine max_two_ints (I.ok.hd hc) fun h' tk k => ⟨_, H, I.kept k, ?_, q⟩
  by_cases hj : j > i
  · rw [if_pos hj, if_pos hj]; exact ⟨_, rfl⟩
  · rw [if_neg hj, if_neg hj]; exact ⟨_, rfl⟩
theorem call_min2 (hc : X.calm = true) : CallR X (.builtin "min") (fun xs H Q => ∃ i j, xs = [.int i, .int j] ∧ Q (.int (if j < i then j else i)) H) := by
  intro pins s σ H xs us Q I r h
  obtain ⟨i, j, rfl, q⟩ := h
  obtain ⟨u, w', rfl, ⟨t, rfl⟩, ⟨t', rfl⟩⟩ := vals2 r
  refine min_two_ints (I.ok.hd hc) fun h' tk k => ⟨_, H, I.kept k, ?_, q⟩
  by_cases hj : j < i
  · rw [if_pos hj, if_pos hj]; exact ⟨_, rfl⟩
  · rw [if_neg hj, if_neg hj]; exact ⟨_, rfl⟩
theorem call_int1 : CallR X (.type "int") (fun xs H Q => (∃ i, xs = [.int i] ∧ Q (.int i) H) ∨ ∃ k, xs = [.bl k] ∧ Q (.int (if k then 1 else 0)) H) := by
  intro pins s σ H xs us Q I r h
  rcases h with ⟨i, rfl, q⟩ | ⟨k, rfl, q⟩
  · obtain ⟨u, rfl, t, rfl⟩ := vals1 r
    exact call_int_int ⟨.int i, H, I, ⟨_, rfl⟩, q⟩
  · obtain ⟨u, rfl, r1⟩ := vals1 r
    cases r1
    exact call_int_bool ⟨.int (if k then 1 else 0), H, I.tok _, ⟨_, rfl⟩, q⟩
theorem call_bool1 : CallR X (.type "bool") (fun xs H Q => (∃ i, xs = [.int i] ∧ Q (.bl (i != 0)) H) ∨ ∃ k, xs = [.bl k] ∧ Q (.bl k) H) := by
  intro pins s σ H xs us Q I r h
  rcases h with ⟨i, rfl, q⟩ | ⟨k, rfl, q⟩
  · obtain ⟨u, rfl, t, rfl⟩ := vals1 r
    exact call_bool_int ⟨.bl (i != 0), H, I, rfl, q⟩
  · obtain ⟨u, rfl, r1⟩ := vals1 r
    cases r1
    exact call_bool_bool ⟨.bl k, H, I, rfl, q⟩
theorem call_str_int : CallR X (.type "str") (fun xs H Q => ∃ i, xs = [.int i] ∧ i.natAbs.log2 < 1920 ∧ Q (.str (toString i)) H) := by
  intro pins s σ H xs us Q I r h
  obtain ⟨i, rfl, hz, q⟩ := h
  obtain ⟨u, rfl, t, rfl⟩ := vals1 r
  exact PySem.P.str_of_int hz ⟨.str _, H, I.tok _, ⟨_, rfl⟩, q⟩
theorem call_ord : CallR X (.builtin "ord") (fun xs H Q => ∃ x, xs = [.str x] ∧ x.length = 1 ∧ Q (.int (x.cps.getD 0 0 : Nat)) H) := by
  intro pins s σ H xs us Q I r h
  obtain ⟨x, rfl, hz, q⟩ := h
  obtain ⟨u, rfl, t, rfl⟩ := vals1 r
  exact ord_of_one hz ⟨.int _, H, I.tok _, ⟨_, rfl⟩, q⟩
theorem call_chr : CallR X (.builtin "chr") (fun xs H Q => ∃ i, xs = [.int i] ∧ 0 ≤ i ∧ i ≤ 1114111 ∧ Q (.str ⟨#[i.toNat]⟩) H) := by
  intro pins s σ H xs us Q I r h
  obtain ⟨i, rfl, h0, h1, q⟩ := h
  obtain ⟨u, rfl, t, rfl⟩ := vals1 r
  exact chr_of_range h0 h1 ⟨.str _, H, I.tok _, ⟨_, rfl⟩, q⟩
/-- len of a str, a bytes, a list, a tuple -/
def LenV (K : PySem.W.Frag) (x : V) (H : Hp) (n : Nat) : Prop :=
  match x with
  | .str y => y.length ≤ sizeLine ∧ n = y.length
  | .byt y => y.size ≤ sizeLine ∧ n = y.size
  | .ref p => (∃ xs, SqL K H p xs ∧ n = xs.length) ∨ ∃ xs, SqT K H p xs ∧ n = xs.length
  | _ => False
theorem call_len : CallR X (.builtin "len") (fun xs H Q => ∃ x n, xs = [x] ∧ LenV X.K x H n ∧ Q (.int n) H) := by
  intro pins s σ H xs us Q I r h
  obtain ⟨x, n, rfl, e, q⟩ := h
  obtain ⟨u, rfl, rx⟩ := vals1 r
  have hl := line63
  have hs : sizeLine = 16777216 := sizeLine_eq
  cases x with
  | str y =>
    obtain ⟨t, rfl⟩ := rx
    obtain ⟨hy, e'⟩ : y.length ≤ sizeLine ∧ n = y.length := e
    subst e'
    exact len_str (by omega) ⟨.int _, H, I.tok _, ⟨_, rfl⟩, q⟩
  | byt y =>
    obtain ⟨t, rfl⟩ := rx
    obtain ⟨hy, e'⟩ : y.size ≤ sizeLine ∧ n = y.size := e
    subst e'
    exact PySem.W.len_bytes (by omega) ⟨.int _, H, I.tok _, ⟨_, rfl⟩, q⟩
  | ref p =>
    cases rx
    have e' : (∃ xs, SqL X.K H p xs ∧ n = xs.length) ∨ ∃ xs, SqT X.K H p xs ∧ n = xs.length := e
    rcases e' with ⟨xs, hx, e'⟩ | ⟨xs, hx, e'⟩
    · subst e'
      obtain ⟨its, r', pl, hz⟩ := I.list hx
      have hlen := r'.length
      exact Calls.call_len_list pl.isList (by simp only [List.size_toArray]; omega) ⟨.int xs.length, H, I.tok _, ⟨_, by simp only [List.size_toArray]; rw [hlen]⟩, q⟩
    · subst e'
      obtain ⟨its, r', pl, hz⟩ := I.tuple hx
      have hlen := r'.length
      exact len_tuple pl (by simp only [List.size_toArray]; omega) ⟨.int xs.length, H, I.tok _, ⟨_, by simp only [List.size_toArray]; rw [hlen]⟩, q⟩
  | _ => exact (show False from e).elim
/-- divmod: a new tuple -/
theorem call_divmod : CallR X (.builtin "divmod") (fun xs H Q => ∃ i j, xs = [.int i, .int j] ∧ CDiv i j ∧ ∀ p, H p = none → Q (.ref p) (upd H p (.tup [.int (i / j), .int (i % j)]))) := by
  intro pins s σ H xs us Q I r h
  obtain ⟨i, j, rfl, ⟨h1, h2⟩, q⟩ := h
  obtain ⟨u, w', rfl, ⟨t, rfl⟩, ⟨t', rfl⟩⟩ := vals2 r
  refine divmod_int (by omega) ?_ (.inl (PyProof.noPylong_small (by omega)))
  rw [Int.fdiv_eq_ediv_of_nonneg i (by omega), Int.fmod_eq_emod_of_nonneg i (by omega)]
  have hn : H s.heap.objs.size = none := I.hok.fresh (Nat.le_refl _)
  refine ⟨.ref s.heap.objs.size, _, ?_, rfl, q _ hn⟩
  refine I.laid (fun b o e => Heap.get?_push_of_some _ e) (Nat.le_refl _) ⟨by simp only [List.length_cons, List.length_nil]; rw [sizeLine_eq]; decide, [.int (i / j) s.toks, .int (i % j) (s.toks + 1)], .cons ⟨_, rfl⟩ (.cons ⟨_, rfl⟩ .nil), ?_⟩
  exact ⟨_, Heap.get?_push_size s.heap rfl, rfl, 0, rfl⟩
end
end L2

namespace L2
open PySem PySem.Spec PyProof.Rows

/-! ### an instance, its attributes a map -/
structure ObjM (h : Heap) (x dx C : Addr) (mA : Str → Option Value) : Prop where
  obj : h.get? x = some (PySem.W.instObj C dx)
  ns : h.Ns1 dx mA
  ne : dx ≠ x

theorem lookIn_ns {h : Heap} {dx : Addr} {mA : Str → Option Value} (n : h.Ns1 dx mA) : ∃ od, h.get? dx = some od ∧ ∀ name, PySem.W.lookIn name od = some (mA name) := by
  obtain ⟨o, es, ep, ho, hd, hk, _, hm⟩ := n
  refine ⟨o, ho, fun name => ?_⟩
  have e := hm name
  unfold nsFind findBy at e
  rw [← Array.find?_toList] at e
  unfold PySem.W.lookIn
  rw [hd]
  dsimp only
  split
  · rename_i y q
    rw [q] at e
    exact congrArg some e
  · rename_i q
    rw [q] at e
    have a : es.toList.any (·.refKey) = false := by
      rw [List.any_eq_false]
      intro y hy
      obtain ⟨z, t, hkey⟩ := hk y (Array.mem_toList_iff.mp hy)
      simp [DictEntry.refKey, hkey]
    have a' : ¬ es.toList.any (·.refKey) = true := by rw [a]; exact Bool.false_ne_true
    rw [if_neg a']
    exact congrArg some e

theorem ObjM.look {h : Heap} {x dx C : Addr} {mA : Str → Option Value} (I : ObjM h x dx C mA) : ∃ od, PySem.W.InstAt h x (PySem.W.instObj C dx) C (some od) ∧ ∀ name, PySem.W.lookIn name od = some (mA name) :=
  let ⟨od, ho, hl⟩ := lookIn_ns I.ns
  ⟨od, ⟨I.obj, rfl, rfl, ho⟩, hl⟩

section
variable {prog : Program} {w : World} {A : Around} {E : Value → Shared → Prop} {s : Shared} {K : PySem.W.Frag} {x dx C f : Addr} {mA : Str → Option Value} {name : Str} {v : Value}

theorem get_map {expr : Bool} {Q : Value → Shared → Prop} (X : K.In s.heap) (I : ObjM s.heap x dx C mA) (hg : PySem.W.plainGet K C name = true) (hh : PySem.W.hasDictIn K C = true)
    (ha : PySem.W.findIn K (.ref C) name = some none) (hv : mA name = some v) (hv' : PySem.W.handedIn v = true) (h : Q v { s with toks := s.toks + 1 }) :
    wpAny (model prog w) A (getAttr (.ref x) name expr) Q E s := by
  obtain ⟨od, J, hl⟩ := I.look
  exact PySem.W.get_value X J (PySem.W.plainGet_of hg).1 (PySem.W.findObj_own hh ha rfl (by rw [hl, hv])) hv' h

theorem get_const {expr : Bool} {a : Value} {Q : Value → Shared → Prop} (X : K.In s.heap) (I : ObjM s.heap x dx C mA) (hg : PySem.W.plainGet K C name = true) (hh : PySem.W.hasDictIn K C = true)
    (ha : PySem.W.findIn K (.ref C) name = some (some a)) (hn : PySem.W.specialIn K a "__get__" = some none) (hc : PySem.W.copiedNames.contains name = false) (hv : mA name = none) (hv' : PySem.W.handedIn a = true)
    (h : Q a { s with toks := s.toks + 1 }) : wpAny (model prog w) A (getAttr (.ref x) name expr) Q E s := by
  obtain ⟨od, J, hl⟩ := I.look
  exact PySem.W.get_value X J (PySem.W.plainGet_of hg).1 (PySem.W.findObj_cls hh ha hn hv' hc (by rw [hl, hv])) hv' h

theorem get_meth {pl : Sem Bool} {Q : Value × List Value → Shared → Prop} (X : K.In s.heap) (I : ObjM s.heap x dx C mA) (hg : PySem.W.plainGet K C name = true)
    (hf : PySem.W.findIn K (.ref C) name = some (some (.ref f))) (ht : PySem.W.isFn K (.ref f) = true) (hv : mA name = none) (h : Q (.ref f, [.ref x]) s) :
    wpAny (model prog w) A (getMethod (.ref x) name pl) Q E s := by
  obtain ⟨od, J, hl⟩ := I.look
  exact PySem.W.method_fn X J (PySem.W.plainGet_of hg).1 (PySem.W.plainGet_of hg).2 hf (beq_iff_eq.mp ht) (by show (PySem.W.lookIn name od).map (·.isSome) = some false; rw [hl, hv]; rfl) h

theorem set_map {ns : List Str} {Q : Unit → Shared → Prop} (X : K.In s.heap) (I : ObjM s.heap x dx C mA)
    (hs : PySem.W.findIn K (.ref C) "__setattr__" = some (some (.builtin "object.__setattr__"))) (hp : PySem.W.plainOver K C = true) (ht : PySem.W.takerIn K C name = some none) (hh : PySem.W.hasDictIn K C = true)
    (hw : PySem.Within mA ns) (hsz : ns.length ≤ sizeLine)
    (h : ∀ h', ObjM h' x dx C (fun y => if y = name then some v else mA y) → Heap.SameBut dx s.heap h' → Q () { s with heap := h', toks := s.toks + 2 }) :
    wpAny (model prog w) A (setAttr (.ref x) name v) Q E s := by
  obtain ⟨od, J, hl⟩ := I.look
  refine PySem.W.set_plain X J hs (PySem.W.osa_open (s := { s with toks := s.toks + 1 }) (r := none) X J hp ht fun b => ?_)
  obtain ⟨cd, hc, hd'⟩ := PySem.W.any_some hh
  have hx : s.heap.get? x = some ⟨.ref C, some dx, .plain, #[]⟩ := I.obj
  refine wpAny_bind (wpAny_pure (wpAny_bind (wpAny_bind (wpAny_loadPart hx (wpAny_bind (PySem.W.Looks.here (s := { s with toks := s.toks + 1 }) (PySem.W.looks_clsIn X hc) ?_))))))
  rw [hd']
  refine wpAny_pure (a := some dx) (wpAny_bind (wpAny_pure (wpAny_bind ?_)))
  refine wpAny_nsSet1 (s := { s with toks := s.toks + 1 }) I.ns fun h' hn2 hs2 => ?_
  obtain ⟨oD, esD, epD, hoD, hdD, hcD⟩ := hn2.count (PySem.Within.cons name v hw)
  refine wpAny_bind (wpAny_lookBehind hoD (by rw [hdD]; exact pastItsLine_dict (Nat.le_trans hcD (by rw [List.length_cons]; omega))) ?_)
  exact wpAny_pure (h _ ⟨(hs2.2 _ (Ne.symm I.ne)).trans I.obj, hn2, I.ne⟩ hs2)

/-- C(..): the dict at the heap's end, the instance behind it; then its __init__ -/
theorem make_map {R : Result → Shared → Prop} {vs : List Value} {kw : List (Str × Value)} (X : K.In s.heap) (hm : PySem.W.makesIn K C = true)
    (hi : PySem.W.findIn K (.ref C) "__init__" = some (some (.ref f))) (hf : PySem.W.typeIn K (.ref f) = some (.type "function"))
    (h : codeAny (model prog w) (A.under (.builtin "type.__call__" ⟨.ref C :: vs, kw⟩)) (.call (.ref f) ⟨.ref (s.heap.objs.size + 1) :: vs, kw⟩) (PySem.W.InitBack (s.heap.objs.size + 1) R)
      { s with heap := (s.heap.push PySem.W.emptyDict).push (PySem.W.instObj C s.heap.objs.size) }) :
    codeAny (model prog w) A (.call (.ref C) ⟨vs, kw⟩) R s := by
  obtain ⟨hh, g, d, t, os⟩ := s
  exact PySem.W.make_core (PySem.W.makes_of X hm) (PySem.W.looks_findIn X hi) (fun self => PySem.W.bind_fn X self hf) (.inl rfl) h
/-- C() where there is no __init__ but object's -/
theorem make_map0 {R : Result → Shared → Prop} (X : K.In s.heap) (hm : PySem.W.makesIn K C = true)
    (hi : PySem.W.findIn K (.ref C) "__init__" = some (some (.builtin "object.__init__")))
    (hb : ∀ self, PySem.W.Looks (model prog w) s.heap (bindSpecial (.builtin "object.__init__") self) (.builtin "object.__init__", [self]))
    (h : codeAny (model prog w) (A.under (.builtin "type.__call__" ⟨[.ref C], []⟩)) (.call (.builtin "object.__init__") ⟨[.ref (s.heap.objs.size + 1)], []⟩) (PySem.W.InitBack (s.heap.objs.size + 1) R)
      { s with heap := (s.heap.push PySem.W.emptyDict).push (PySem.W.instObj C s.heap.objs.size) }) :
    codeAny (model prog w) A (.call (.ref C) ⟨[], []⟩) R s := by
  obtain ⟨hh, g, d, t, os⟩ := s
  exact PySem.W.make_core (PySem.W.makes_of X hm) (PySem.W.looks_findIn X hi) hb (.inr ⟨rfl, rfl⟩) h
end

/-! ### the attributes as a list of pairs -/
def putF (f : Str) (v : V) : List (Str × V) → List (Str × V)
  | [] => [(f, v)]
  | (g, x) :: r => if g = f then (g, v) :: r else (g, x) :: putF f v r
theorem lookup_putF (f g : Str) (v : V) : ∀ fs : List (Str × V), (putF f v fs).lookup g = if g = f then some v else fs.lookup g
  | [] => by
    show List.lookup g [(f, v)] = _
    by_cases h : g = f
    · have hb : (g == f) = true := beq_iff_eq.mpr h
      simp only [List.lookup, hb, if_pos h]
    · have hb : (g == f) = false := beq_eq_false_iff_ne.mpr h
      simp only [List.lookup, hb, if_neg h]
  | (k, x) :: r => by
    have ih := lookup_putF f g v r
    rw [show putF f v ((k, x) :: r) = (if k = f then (k, v) :: r else (k, x) :: putF f v r) from rfl]
    by_cases hk : k = f
    · rw [if_pos hk]
      by_cases h : g = k
      · have hb : (g == k) = true := beq_iff_eq.mpr h
        simp only [List.lookup, hb, if_pos (h.trans hk)]
      · have hb : (g == k) = false := beq_eq_false_iff_ne.mpr h
        simp only [List.lookup, hb, if_neg (fun e : g = f => h (e.trans hk.symm))]
    · rw [if_neg hk]
      by_cases h : g = k
      · have hb : (g == k) = true := beq_iff_eq.mpr h
        simp only [List.lookup, hb, if_neg (fun e : g = f => hk (h.symm.trans e))]
      · have hb : (g == k) = false := beq_eq_false_iff_ne.mpr h
        simp only [List.lookup, hb]
        exact ih
theorem keys_putF (f : Str) (v : V) : ∀ fs : List (Str × V), f ∈ (putF f v fs).map (·.1) ∧ ∀ g, g ∈ fs.map (·.1) → g ∈ (putF f v fs).map (·.1)
  | [] => ⟨by simp [putF], fun g h => by simp at h⟩
  | (k, x) :: r => by
    obtain ⟨i1, i2⟩ := keys_putF f v r
    rw [show putF f v ((k, x) :: r) = (if k = f then (k, v) :: r else (k, x) :: putF f v r) from rfl]
    by_cases hk : k = f
    · rw [if_pos hk]
      subst hk
      exact ⟨by simp, fun g h => by simpa using h⟩
    · rw [if_neg hk]
      refine ⟨?_, fun g h => ?_⟩
      · rw [List.map_cons]
        exact List.mem_cons_of_mem _ i1
      · rw [List.map_cons] at h ⊢
        rcases List.mem_cons.mp h with e | e
        · exact List.mem_cons.mpr (.inl e)
        · exact List.mem_cons_of_mem _ (i2 g e)
theorem length_putF (f : Str) (v : V) : ∀ fs : List (Str × V), (putF f v fs).length ≤ fs.length + 1
  | [] => by simp [putF]
  | (k, x) :: r => by
    have ih := length_putF f v r
    rw [show putF f v ((k, x) :: r) = (if k = f then (k, v) :: r else (k, x) :: putF f v r) from rfl]
    by_cases hk : k = f
    · rw [if_pos hk, List.length_cons, List.length_cons]; omega
    · rw [if_neg hk, List.length_cons, List.length_cons]; omega

theorem RelO.some_of {v : V} {o : Option Value} (r : RelO (some v) o) : ∃ u, o = some u ∧ RelV v u := by
  cases o with
  | none => exact (show False from r).elim
  | some u => exact ⟨u, rfl, r⟩
theorem RelO.none_of {o : Option Value} (r : RelO none o) : o = none := by
  cases o with
  | none => rfl
  | some u => exact (show False from r).elim
theorem handed_of {v : V} {u : Value} (r : RelV v u) : PySem.W.handedIn u = true := by
  cases v with
  | non => cases (show u = Value.none from r); rfl
  | bl b => cases (show u = Value.bool b from r); rfl
  | int i => obtain ⟨t, e⟩ := (show ∃ t, u = Value.int i t from r); cases e; rfl
  | str x => obtain ⟨t, e⟩ := (show ∃ t, u = Value.str x t from r); cases e; rfl
  | byt b => obtain ⟨t, e⟩ := (show ∃ t, u = Value.bytes b t from r); cases e; rfl
  | flt b => obtain ⟨t, e⟩ := (show ∃ t, u = Value.float b t from r); cases e; rfl
  | ref a => cases (show u = Value.ref a from r); rfl
  | ty n => cases (show u = Value.type n from r); rfl

section
variable {P : Program} {w : World} {H H' : Hp} {h h' : Heap} {a C dx : Addr} {fs fs' : List (Str × V)}
theorem ins_get (hok : HOk P w H h) (e : H a = some (.ins C dx fs)) : ∃ mA, ObjM h a dx C mA ∧ (∀ f, RelO (fs.lookup f) (mA f)) ∧ PySem.Within mA (fs.map (·.1)) ∧ fs.length ≤ 1000 ∧ H dx = some (.own a) := by
  obtain ⟨d, z, ne, ob, mA, n, r, q⟩ := (show ObjOk P w H h a (.ins C dx fs) from hok a _ e)
  exact ⟨mA, ⟨ob, n, ne⟩, r, q, z, d⟩
end

/-! ### what of the text a class must have -/
structure Cls (K : PySem.W.Frag) (C : Addr) : Prop where
  pg : PySem.W.plainGet K C Str.empty = true
  hd : PySem.W.hasDictIn K C = true
  po : PySem.W.plainOver K C = true
  sa : PySem.W.findIn K (.ref C) "__setattr__" = some (some (.builtin "object.__setattr__"))
theorem Cls.get {K : PySem.W.Frag} {C : Addr} (c : Cls K C) (f : Str) : PySem.W.plainGet K C f = true := c.pg
/-- no class of it has the name -/
def NoAttr (K : PySem.W.Frag) (C : Addr) (f : Str) : Prop := PySem.W.findIn K (.ref C) f = some none
theorem NoAttr.taker {K : PySem.W.Frag} {C : Addr} {f : Str} (n : NoAttr K C f) : PySem.W.takerIn K C f = some none := by
  unfold PySem.W.takerIn
  rw [show PySem.W.findIn K (.ref C) f = some none from n]
  rfl
/-- a constant of the class -/
structure Con (K : PySem.W.Frag) (C : Addr) (f : Str) (v : V) (u : Value) : Prop where
  at_ : PySem.W.findIn K (.ref C) f = some (some u)
  rel : RelV v u
  get : PySem.W.specialIn K u "__get__" = some none
  cp : PySem.W.copiedNames.contains f = false
/-- a method: a plain def of the class or of one above it -/
structure Meth (K : PySem.W.Frag) (C : Addr) (m : Str) (f : Addr) : Prop where
  at_ : PySem.W.findIn K (.ref C) m = some (some (.ref f))
  fn : PySem.W.isFn K (.ref f) = true
  kp : PySem.W.keepIn K (.ref f) = true

section
variable {X : Cx} {pins : List (Addr × Obj)} {σ : St} {H : Hp} {s : Shared} {a C dx : Addr} {fs : List (Str × V)} {f : Str} {v : V} {A : Around} {E : Value → Shared → Prop}

theorem getattr_ok {b : Bool} {Q : Value → Shared → Prop} (I : Inv X pins σ H s) (e : H a = some (.ins C dx fs)) (c : Cls X.K C) (n : NoAttr X.K C f) (l : fs.lookup f = some v)
    (h : ∀ u s', Inv X pins σ H s' → RelV v u → Q u s') : wpAny (model X.prog X.w) A (getAttr (.ref a) f b) Q E s := by
  obtain ⟨mA, O, r, _, _, _⟩ := ins_get I.hok e
  obtain ⟨u, hu, ru⟩ := RelO.some_of (v := v) (o := mA f) (by rw [← l]; exact r f)
  exact get_map I.kIn O (c.get f) c.hd n hu (handed_of ru) (h u _ (I.tok _) ru)

theorem getcon_ok {b : Bool} {u : Value} {Q : Value → Shared → Prop} (I : Inv X pins σ H s) (e : H a = some (.ins C dx fs)) (c : Cls X.K C) (k : Con X.K C f v u) (l : fs.lookup f = none)
    (h : ∀ s', Inv X pins σ H s' → Q u s') : wpAny (model X.prog X.w) A (getAttr (.ref a) f b) Q E s := by
  obtain ⟨mA, O, r, _, _, _⟩ := ins_get I.hok e
  have hn : mA f = none := RelO.none_of (by rw [← l]; exact r f)
  exact get_const I.kIn O (c.get f) c.hd k.at_ k.get k.cp hn (handed_of k.rel) (h _ (I.tok _))

theorem getmeth_ok {m : Str} {g : Addr} {pl : Sem Bool} {Q : Value × List Value → Shared → Prop} (I : Inv X pins σ H s) (e : H a = some (.ins C dx fs)) (c : Cls X.K C) (k : Meth X.K C m g) (l : fs.lookup m = none)
    (h : Q (.ref g, [.ref a]) s) : wpAny (model X.prog X.w) A (getMethod (.ref a) m pl) Q E s := by
  obtain ⟨mA, O, r, _, _, _⟩ := ins_get I.hok e
  have hn : mA m = none := RelO.none_of (by rw [← l]; exact r m)
  exact get_meth I.kIn O (c.get m) k.at_ k.fn hn h

theorem setattr_ok {y : V} {u : Value} {Q : Unit → Shared → Prop} (I : Inv X pins σ H s) (e : H a = some (.ins C dx fs)) (c : Cls X.K C) (n : NoAttr X.K C f) (hl : fs.length < 1000) (ry : RelV y u)
    (h : ∀ s', Inv X pins σ (upd H a (.ins C dx (putF f y fs))) s' → Q () s') : wpAny (model X.prog X.w) A (setAttr (.ref a) f u) Q E s := by
  obtain ⟨mA, O, r, wi, _, ho⟩ := ins_get I.hok e
  have hz : (fs.map (·.1)).length ≤ sizeLine := by rw [List.length_map, sizeLine_eq]; omega
  refine set_map I.kIn O c.sa c.po n.taker c.hd wi hz fun h' O' sb => h _ ?_
  have hd : ∃ o, h'.get? dx = some o := let ⟨o, _, _, e', _⟩ := O'.ns; ⟨o, e'⟩
  refine I.write (x := a) (e := dx) (by rw [e]; exact True.intro) (.inr ho) (fun b q hb z => (sb.2 b hb).trans z) hd ?_
  refine ⟨by rw [upd_ne O.ne]; exact ho, ?_, O.ne, O'.obj, _, O'.ns, fun g => ?_, fun g hg => ?_⟩
  · have := length_putF f y fs; omega
  · show RelO ((putF f y fs).lookup g) (if g = f then some u else mA g)
    rw [lookup_putF]
    by_cases q : g = f
    · rw [if_pos q, if_pos q]; exact ry
    · rw [if_neg q, if_neg q]; exact r g
  · by_cases q : g = f
    · rw [q]; exact (keys_putF f y fs).1
    · refine (keys_putF f y fs).2 g (wi g fun z => hg ?_)
      show (if g = f then some u else mA g) = none
      rw [if_neg q]; exact z

/-- a new instance, tracked, without attributes -/
theorem Inv.made (I : Inv X pins σ H s) : Inv X pins σ (upd (upd H s.heap.objs.size (.own (s.heap.objs.size + 1))) (s.heap.objs.size + 1) (.ins C s.heap.objs.size []))
    { s with heap := (s.heap.push PySem.W.emptyDict).push (PySem.W.instObj C s.heap.objs.size) } := by
  have e1 : (s.heap.push PySem.W.emptyDict).get? s.heap.objs.size = some PySem.W.emptyDict := Heap.get?_push_size s.heap rfl
  have e2 : ((s.heap.push PySem.W.emptyDict).push (PySem.W.instObj C s.heap.objs.size)).get? (s.heap.objs.size + 1) = some (PySem.W.instObj C s.heap.objs.size) := by
    have := Heap.get?_push_size (s.heap.push PySem.W.emptyDict) (o := PySem.W.instObj C s.heap.objs.size) rfl
    rwa [Heap.size_push] at this
  have e3 : (s.heap.push PySem.W.emptyDict).Ns s.heap.objs.size (fun _ => none) := ⟨PySem.W.emptyDict, #[], _, e1, rfl, (fun e he => absurd he (by simp)), fun _ => rfl⟩
  have I1 := I.laid (a := s.heap.objs.size) (o := .own (s.heap.objs.size + 1)) (h' := s.heap.push PySem.W.emptyDict) (t' := s.toks) (fun b u q => Heap.get?_push_of_some _ q) (Nat.le_refl _) ⟨_, e1⟩
  refine I1.laid (a := s.heap.objs.size + 1) (o := .ins C s.heap.objs.size []) (t' := s.toks) (fun b u q => Heap.get?_push_of_some _ q) (Nat.le_of_eq (Heap.size_push _ _)) ?_
  have ne : s.heap.objs.size ≠ s.heap.objs.size + 1 := Nat.ne_of_lt (Nat.lt_succ_self _)
  refine ⟨by rw [upd_ne ne, upd_same], Nat.zero_le _, ne, e2, fun _ => none, (Heap.Ns1.of_empty e3).at fun o q => Heap.get?_push_of_some _ q, fun _ => True.intro, fun y hy => absurd rfl hy⟩

/-- e.f where nothing but the object is asked: through attributeBase (super) and the last hold -/
theorem attr_of {prog : Program} {w : World} {env : Env} {e : Expr} {f : Str} {pos : Pos} {s : Shared} {Q : Value → Shared → Prop} (hb : attributeBase e f env (eval e env) = eval e env)
    (h : wpAny (model prog w) A (eval e env) (fun o s₁ => wpAny (model prog w) A (getAttr o f true) Q E s₁) E s) : wpAny (model prog w) A (eval (.Attribute e f pos) env) Q E s :=
  Attribute_any_ h (by rw [arm_eval_Attribute, hb])
end

/-! ### readings and rules -/
/-- e.f, an attribute of the instance -/
def tFld (K : PySem.W.Frag) (ta : TE) (f : Str) : TE := fun σ H Q => ta σ H fun x H1 => ∃ a C dx fs v, x = .ref a ∧ H1 a = some (.ins C dx fs) ∧ Cls K C ∧ NoAttr K C f ∧ fs.lookup f = some v ∧ Q v H1
/-- e.f, a constant of the class -/
def tCon (K : PySem.W.Frag) (ta : TE) (f : Str) : TE := fun σ H Q => ta σ H fun x H1 => ∃ a C dx fs v u, x = .ref a ∧ H1 a = some (.ins C dx fs) ∧ Cls K C ∧ Con K C f v u ∧ fs.lookup f = none ∧ Q v H1
/-- e.f = value -/
def sFld (K : PySem.W.Frag) (ta tv : TE) (f : Str) : TS := fun D σ H => tv σ H fun y H1 => ta σ H1 fun x H2 => ∃ a C dx fs, x = .ref a ∧ H2 a = some (.ins C dx fs) ∧ Cls K C ∧ NoAttr K C f ∧ fs.length < 1000 ∧
  D.nx σ (upd H2 a (.ins C dx (putF f y fs)))
/-- an augmented operator on two values -/
def InOp (X : Cx) (op : Operator) (rd : V → V → Hp → VK → Prop) : Prop :=
  ∀ (pins : List (Addr × Obj)) (s : Shared) (σ : St) (H : Hp) (x y : V) (u v : Value) (Q : VK), Inv X pins σ H s → RelV x u → RelV y v → rd x y H Q → wpAny (model X.prog X.w) X.A (inplaceOp op u v) (EP X pins σ Q) X.xe s
/-- e.f op= value -/
def sFldAug (K : PySem.W.Frag) (ta tv : TE) (rd : V → V → Hp → VK → Prop) (f : Str) : TS := fun D σ H => ta σ H fun x H1 => ∃ a C dx fs v, x = .ref a ∧ H1 a = some (.ins C dx fs) ∧ Cls K C ∧ NoAttr K C f ∧ fs.lookup f = some v ∧
  tv σ H1 fun y H2 => rd v y H2 fun z H3 => ∃ dx' fs', H3 a = some (.ins C dx' fs') ∧ fs'.length < 1000 ∧ D.nx σ (upd H3 a (.ins C dx' (putF f z fs')))

section
variable {X : Cx} {o e value : Expr} {f : Str} {pos pos' tpos : Pos} {ta tv : TE}
theorem pe_fld (he : PE X e ta) (hb : attributeBase e f X.env (eval e X.env) = eval e X.env) : PE X (.Attribute e f pos) (tFld X.K ta f) := by
  intro pins s σ H Q I h
  refine attr_of hb (thn (he pins s σ H _ I h) fun u s1 ⟨x, H1, I1, rx, a, C, dx, fs, v, ex, ea, c, n, l, q⟩ => ?_)
  subst ex
  obtain rfl : u = Value.ref a := rx
  exact getattr_ok I1 ea c n l fun u' s2 I2 ru => ⟨v, H1, I2, ru, q⟩
theorem pe_con (he : PE X e ta) (hb : attributeBase e f X.env (eval e X.env) = eval e X.env) : PE X (.Attribute e f pos) (tCon X.K ta f) := by
  intro pins s σ H Q I h
  refine attr_of hb (thn (he pins s σ H _ I h) fun u s1 ⟨x, H1, I1, rx, a, C, dx, fs, v, u0, ex, ea, c, k, l, q⟩ => ?_)
  subst ex
  obtain rfl : u = Value.ref a := rx
  exact getcon_ok I1 ea c k l fun s2 I2 => ⟨v, H1, I2, k.rel, q⟩
theorem ps_fld (ha : PE X o ta) (hv : PE X value tv) (hs : swapsWith value (some (.Attribute o f pos')) pos.line X.env = pure false) : PS X (.Assign [.Attribute o f pos'] value pos) (sFld X.K ta tv f) := by
  intro pins s σ H D I h
  refine plainObj_wpAny_Assign_Attribute (thn (hv pins s σ H _ I h) fun u s1 ⟨y, H1, I1, ry, q⟩ => thn (ha pins s1 σ H1 _ I1 q) fun ov s2 ⟨x, H2, I2, rx, a, C, dx, fs, ex, ea, c, n, l, q2⟩ => ?_) hs
  subst ex
  obtain rfl : ov = Value.ref a := rx
  exact setattr_ok I2 ea c n l ry fun s3 I3 => ⟨σ, _, I3, q2⟩
theorem ps_fldaug {op : Operator} {rd : V → V → Hp → VK → Prop} (ha : PE X o ta) (hv : PE X value tv) (hop : InOp X op rd) : PS X (.AugAssign (.Attribute o f tpos) op value pos) (sFldAug X.K ta tv rd f) := by
  intro pins s σ H D I h
  refine wpAny_AugAssign_AttributeAny (thn (ha pins s σ H _ I h) fun ov s1 ⟨x, H1, I1, rx, a, C, dx, fs, v, ex, ea, c, n, l, q⟩ => ?_)
  subst ex
  obtain rfl : ov = Value.ref a := rx
  refine getattr_ok I1 ea c n l fun u s2 I2 ru => thn (hv pins s2 σ H1 _ I2 q) fun w3 s3 ⟨y, H2, I3, ry, q3⟩ => thn (hop pins s3 σ H2 v y u w3 _ I3 ru ry q3) fun w4 s4 ⟨z, H3, I4, rz, dx', fs', ea', l', q4⟩ => ?_
  exact setattr_ok I4 ea' c n l' rz fun s5 I5 => ⟨σ, _, I5, q4⟩
def rAdd : V → V → Hp → VK → Prop := fun x y H Q => ∃ i j, x = .int i ∧ y = .int j ∧ Q (.int (i + j)) H
def rSub : V → V → Hp → VK → Prop := fun x y H Q => ∃ i j, x = .int i ∧ y = .int j ∧ Q (.int (i - j)) H
theorem in_add : InOp X .Add rAdd := by
  rintro pins s σ H x y u v Q I rx ry ⟨i, j, rfl, rfl, q⟩
  obtain ⟨t, rfl⟩ := (show ∃ t, u = Value.int i t from rx)
  obtain ⟨t', rfl⟩ := (show ∃ t', v = Value.int j t' from ry)
  exact PyProof.Rows.iadd_int ⟨.int (i + j), H, I.tok _, ⟨_, rfl⟩, q⟩
theorem in_sub : InOp X .Sub rSub := by
  rintro pins s σ H x y u v Q I rx ry ⟨i, j, rfl, rfl, q⟩
  obtain ⟨t, rfl⟩ := (show ∃ t, u = Value.int i t from rx)
  obtain ⟨t', rfl⟩ := (show ∃ t', v = Value.int j t' from ry)
  exact PyProof.Rows.isub_int ⟨.int (i - j), H, I.tok _, ⟨_, rfl⟩, q⟩

/-- what is between an instance and its method: the tree of a method call -/
theorem methcall_of {pl : Sem Bool} {m : Str} {apos : Pos} {args : List Expr} {pins : List (Addr × Obj)} {s : Shared} {σ : St} {H : Hp} {Q : Value → Shared → Prop} {te : TE} (he : PE X e te) (I : Inv X pins σ H s)
    (h : te σ H fun x H1 => ∃ a C dx fs g, x = .ref a ∧ H1 a = some (.ins C dx fs) ∧ Cls X.K C ∧ Meth X.K C m g ∧ fs.lookup m = none ∧
      ∀ s1, Inv X pins σ H1 s1 → wpAny (model X.prog X.w) X.A (callWith pos (.ref g) [.ref a] (backTo pos (starEach args X.env)) (backToKw pos (keywordEach [] X.env))) Q X.xe s1)
    (ht : eval (.Call (.Attribute e m apos) args [] pos) X.env = (do
      let ov ← eval e X.env
      standAt apos.atName
      let (f, first) ← holding [ov] (getMethod ov m pl)
      callWith pos f first (backTo pos (starEach args X.env)) (backToKw pos (keywordEach [] X.env)))) :
    wpAny (model X.prog X.w) X.A (eval (.Call (.Attribute e m apos) args [] pos) X.env) Q X.xe s := by
  refine PySem.W.methodCall_KW (pl := pl) (thn (he pins s σ H _ I h) fun u s1 ⟨x, H1, I1, rx, a, C, dx, fs, g, ex, ea, c, k, l, q⟩ => ?_) ht
  subst ex
  obtain rfl : u = Value.ref a := rx
  exact getmeth_ok I1 ea c k l (q s1 I1)
end

/-! ### isinstance -/
section
variable {X : Cx} {pins : List (Addr × Obj)} {σ : St} {H : Hp} {s : Shared} {A : Around} {E : Value → Shared → Prop} {Q : Value → Shared → Prop} {c : Value} {b : Bool}
/-- the type of a value, as the fragment's deciders take it; for an instance its class -/
inductive TyOf (K : PySem.W.Frag) (H : Hp) : V → Value → Prop where
  | non : TyOf K H .non (.type "NoneType")
  | bl (x : Bool) : TyOf K H (.bl x) (.type "bool")
  | int (i : Int) : TyOf K H (.int i) (.type "int")
  | str (x : Str) : TyOf K H (.str x) (.type "str")
  | flt (x : UInt64) : TyOf K H (.flt x) (.type "float")
  | lst {a : Addr} {xs : List V} (e : H a = some (.lst xs)) : TyOf K H (.ref a) (.type "list")
  | frz {a : Addr} {o : Obj} {xs : List V} (e : H a = some (.frz o (.lst xs))) : TyOf K H (.ref a) (.type "list")
  | tup {a : Addr} {xs : List V} (e : H a = some (.tup xs)) : TyOf K H (.ref a) (.type "tuple")
  | dK {a : Addr} {kvs : List (Key × V)} (e : H a = some (.dK kvs)) : TyOf K H (.ref a) (.type "dict")
  | dT {a : Addr} {kvs : List (List Key × V)} (e : H a = some (.dT kvs)) : TyOf K H (.ref a) (.type "dict")
  | ins {a C dx : Addr} {fs : List (Str × V)} (e : H a = some (.ins C dx fs)) (cl : Cls K C) (ha : PySem.W.findIn K (.ref C) "__class__" = some (some (.builtin "object.__class__")))
      (hn : PySem.W.specialIn K (.builtin "object.__class__") "__get__" = some (some (.builtin "getset_descriptor.__get__"))) (htk : PySem.W.takesIn K (.builtin "object.__class__") = some true)
      (hm : PySem.W.mroIn K C (.type "object") = some true) : TyOf K H (.ref a) (.ref C)
/-- isinstance(x, c) for one class c, a built-in or an own one: kitOne's answer -/
theorem isinst_ok {x : V} {u t : Value} (I : Inv X pins σ H s) (rx : RelV x u) (ty : TyOf X.K H x t) (e : PySem.W.kitOne X.K t c = some b) (h : ∀ tk, Q (.bool b) { s with toks := tk }) :
    wpAny (model X.prog X.w) A (call (.builtin "isinstance") [u, c]) Q E s := by
  cases ty with
  | non => cases (show u = Value.none from rx); exact PySem.W.kia_one PySem.W.kitx_none I.kIn True.intro e (fun z => nomatch z) h
  | bl y => cases (show u = Value.bool y from rx); exact PySem.W.kia_one PySem.W.kitx_bool I.kIn True.intro e (fun z => nomatch z) h
  | int i => obtain ⟨t, q⟩ := (show ∃ t, u = Value.int i t from rx); cases q; exact PySem.W.kia_one PySem.W.kitx_int I.kIn True.intro e (fun z => nomatch z) h
  | str y => obtain ⟨t, q⟩ := (show ∃ t, u = Value.str y t from rx); cases q; exact PySem.W.kia_one PySem.W.kitx_str I.kIn True.intro e (fun z => nomatch z) h
  | flt y => obtain ⟨t, q⟩ := (show ∃ t, u = Value.float y t from rx); cases q; exact PySem.W.kia_one PySem.W.kitx_float I.kIn True.intro e (fun z => nomatch z) h
  | @lst a xs ea =>
    cases (show u = Value.ref a from rx)
    obtain ⟨_, _, n, _, h1⟩ := (show ObjOk X.prog X.w H s.heap a (.lst xs) from I.hok a _ ea)
    exact PySem.W.kia_one PySem.W.kitx_list I.kIn ⟨_, h1, rfl⟩ e (fun z => nomatch z) h
  | @frz a ob xs ea =>
    cases (show u = Value.ref a from rx)
    obtain ⟨_, _, _, n, _, h1⟩ := (show ObjOk X.prog X.w H s.heap a (.frz ob (.lst xs)) from I.hok a _ ea)
    exact PySem.W.kia_one PySem.W.kitx_list I.kIn ⟨_, h1, rfl⟩ e (fun z => nomatch z) h
  | @tup a xs ea =>
    cases (show u = Value.ref a from rx)
    obtain ⟨_, _, _, p⟩ := (show ObjOk X.prog X.w H s.heap a (.tup xs) from I.hok a _ ea)
    obtain ⟨o, h1, h2, _⟩ := p
    exact PySem.W.kia_one PySem.W.kitx_tuple I.kIn ⟨o, h1, h2⟩ e (fun z => nomatch z) h
  | @dK a kvs ea =>
    cases (show u = Value.ref a from rx)
    obtain ⟨_, _, vs, _, p⟩ := (show ObjOk X.prog X.w H s.heap a (.dK kvs) from I.hok a _ ea)
    obtain ⟨o, es, ep, h1, h2, _⟩ := p
    exact PySem.W.kia_one PySem.W.kitx_dict I.kIn ⟨o, h1, h2.1⟩ e (fun z => nomatch z) h
  | @dT a kvs ea =>
    cases (show u = Value.ref a from rx)
    obtain ⟨_, _, xs, _, o, es, ep, h1, h2, _⟩ := (show ObjOk X.prog X.w H s.heap a (.dT kvs) from I.hok a _ ea)
    exact PySem.W.kia_one PySem.W.kitx_dict I.kIn ⟨o, h1, h2.1⟩ e (fun z => nomatch z) h
  | @ins a C dx fs ea cl ha hn htk hm =>
    cases (show u = Value.ref a from rx)
    obtain ⟨mA, O, _⟩ := ins_get I.hok ea
    obtain ⟨od, J, _⟩ := O.look
    exact PySem.W.kia_one (PySem.W.kitx_own (cl.get _) cl.hd ha hn htk hm) I.kIn J e (fun z => nomatch z) h
end
end L2

namespace L2
open PySem PySem.Spec PyProof.Rows

/-! ### room -/
structure Room (k : Nat) (A : Around) : Prop where
  hd : A.handled = none
  dp : A.depth + 3 * k + 5 < recursionLimit
  un : A.units + 16 * k + 200 < cLine
theorem Room.mono {j k : Nat} {A : Around} (r : Room k A) (h : j ≤ k) : Room j A := ⟨r.hd, by have := r.dp; omega, by have := r.un; omega⟩
theorem Room.deeper {k : Nat} {A : Around} (r : Room (k + 1) A) (env : Env) : Room k (A.deeper env) :=
  ⟨r.hd, by have := r.dp; show A.depth + 1 + 3 * k + 5 < _; omega, by have := r.un; show A.units + 3 + 16 * k + 200 < _; omega⟩
theorem Room.in1 {k : Nat} {A : Around} (r : Room (k + 1) A) : Room k A.in1 :=
  ⟨r.hd, by have := r.dp; show A.depth + 3 * k + 5 < _; omega, by have := r.un; show A.units + 1 + 16 * k + 200 < _; omega⟩
theorem make_depth {A : Around} {C : Addr} {us : List Value} {kw : List (Str × Value)} : (A.under (.builtin "type.__call__" ⟨.ref C :: us, kw⟩)).depth = A.depth + 1 := by
  first | rfl | simp [Around.under, Code.weight, Code.isCreation, Code.isGuard, Code.isCaller, Code.frames, Code.isFrame, guardIds]
theorem make_units {A : Around} {C : Addr} {us : List Value} {kw : List (Str × Value)} : (A.under (.builtin "type.__call__" ⟨.ref C :: us, kw⟩)).units = A.units + 1 := by
  first | rfl | simp [Around.under, Code.cUnits, Code.frames, Code.isFrame]
theorem Room.make {k : Nat} {A : Around} (r : Room (k + 1) A) (C : Addr) (us : List Value) (kw : List (Str × Value)) : Room k (A.under (.builtin "type.__call__" ⟨.ref C :: us, kw⟩)) :=
  ⟨r.hd, by have := r.dp; rw [make_depth]; omega, by have := r.un; rw [make_units]; omega⟩
theorem Room.depth {k : Nat} {A : Around} (r : Room k A) : A.depth < recursionLimit := by have := r.dp; omega
theorem Room.units {k : Nat} {A : Around} (r : Room k A) : A.units + 64 < cLine := by have := r.un; omega
theorem Room.units0 {k : Nat} {A : Around} (r : Room k A) : A.units < cLine := by have := r.un; omega

/-! ### argument lists and displays -/
def tNil : TA := fun _ H Q => Q [] H
def tCons (ta : TE) (tr : TA) : TA := fun σ H Q => ta σ H fun x H1 => tr σ H1 fun xs H2 => Q (x :: xs) H2
section
variable {X : Cx} {e : Expr} {es : List Expr} {te : TE} {t : TA} {pos : Pos}
theorem pa_nil : PA X [] tNil := fun _ _ _ _ H Q I h => Calls.spliced_nil ⟨[], H, I, .nil, h⟩
theorem pa_cons (ha : PE X e te) (hr : PA X es t) (hs : starEach (e :: es) X.env = (false, eval e X.env) :: starEach es X.env := by rfl) : PA X (e :: es) (tCons te t) := by
  intro pos pins s σ H Q I h
  rw [hs]
  show wpAny _ _ (spliced ((false, eval e X.env) :: backTo pos (starEach es X.env))) _ _ s
  refine Calls.spliced_cons (thn (ha pins s σ H _ I h) fun u s1 ⟨x, H1, I1, r1, q1⟩ => ?_)
  exact thn (hr pos pins s1 σ H1 _ I1 q1) fun us s2 ⟨xs, H2, I2, r2, q2⟩ => ⟨x :: xs, H2, I2, .cons r1 r2, q2⟩

/-- a tuple, a list of written items -/
def tTup (t : TA) : TE := fun σ H Q => t σ H fun xs H1 => xs.length ≤ sizeLine ∧ ∀ p, H1 p = none → Q (.ref p) (upd H1 p (.tup xs))
def tLst (t : TA) : TE := fun σ H Q => t σ H fun xs H1 => xs.length ≤ sizeLine ∧ ∀ p, H1 p = none → Q (.ref p) (upd H1 p (.lst xs))
theorem pe_tup {x1} (h : PA X es t) : PE X (.Tuple es x1 pos) (tTup t) := by
  intro pins s σ H Q I hq
  refine wpAny_Tuple_spliced (thn (h pos pins s σ H _ I hq) fun us s1 ⟨xs, H1, I1, r, z, q⟩ => ⟨by rw [← r.length]; exact z, ?_⟩)
  have hf : H1 s1.heap.objs.size = none := I1.hok.fresh (Nat.le_refl _)
  refine ⟨.ref s1.heap.objs.size, upd H1 s1.heap.objs.size (.tup xs), I1.laid (t' := s1.toks) (fun b u e => Heap.get?_push_of_some _ e) (Nat.le_refl _) ?_, rfl, q _ hf⟩
  exact ⟨z, us, r, ⟨_, Heap.get?_push_size _ rfl, rfl, _, rfl⟩⟩
theorem pe_lst (h : PA X es t) : PE X (.List es pos) (tLst t) := by
  intro pins s σ H Q I hq
  refine wpAny_List_spliced (thn (h pos pins s σ H _ I hq) fun us s1 ⟨xs, H1, I1, r, z, q⟩ => ⟨by rw [← r.length]; exact z, ?_⟩)
  have hf : H1 s1.heap.objs.size = none := I1.hok.fresh (Nat.le_refl _)
  refine ⟨.ref s1.heap.objs.size, upd H1 s1.heap.objs.size (.lst xs), I1.laid (t' := s1.toks) (fun b u e => Heap.get?_push_of_some _ e) (Nat.le_refl _) ?_, rfl, q _ hf⟩
  exact ⟨z, us, 0, r, Heap.get?_push_size _ rfl⟩
end

/-! ### what a def promises -/
/-- a def's promise: the bound arguments in the parameters' order, the heap, the wanted end, the wanted exception -/
abbrev Sp := List V → Hp → VK → XK → Prop
/-- how an exception lies behind a call (file 08 gives it): the callers' frames, abstract heap and state ahead of the call, the wish, the exception, the state -/
abbrev CXT := List Env → Hp → Shared → XK → Value → Shared → Prop

/-- the state at a call -/
structure Env0 (P : Program) (w : World) (K : PySem.W.Frag) (mg : Str → Option Value) (base : Heap) (A : Around) (outer : List Env) (s : Shared) (H : Hp) : Prop where
  frames : A.frames = some outer
  mod : Mod K mg base
  bs : ∀ b o, base.get? b = some o → s.heap.get? b = some o ∧ H b = none
  bsz : base.objs.size ≤ s.heap.objs.size
  funs : s.heap.FunFrames base outer
  frf : ∀ b ∈ frs outer, H b = none
  hok : HOk P w H s.heap
  bare : AllBare s.gens
/-- a call's end -/
def CE (outer : List Env) (P : Program) (w : World) (H : Hp) (s : Shared) (Q : VK) (u : Value) (s' : Shared) : Prop :=
  ∃ v H', s'.os = s.os ∧ AllBare s'.gens ∧ Un (frs outer) [] H H' s.heap s'.heap ∧ HOk P w H' s'.heap ∧ RelV v u ∧ Q v H'
def CR (CX : CXT) (outer : List Env) (P : Program) (w : World) (H : Hp) (s : Shared) (Q : VK) (E : XK) (r : Result) (s' : Shared) : Prop :=
  match r with
  | .ok (.ret u) => CE outer P w H s Q u s'
  | .ok _ => False
  | .error e => CX outer H s E e s'
structure FnOk (P : Program) (w : World) (K : PySem.W.Frag) (mg : Str → Option Value) (base : Heap) (CX : CXT) (k : Nat) (f : Addr) (fd : FuncData) (ps : List Str) (sp : Sp) : Prop where
  len : ∀ vs H Q E, sp vs H Q E → vs.length = ps.length
  run : ∀ (A : Around) (outer : List Env) (s : Shared) (H : Hp) (args : Args) (us : List Value) (vs : List V) (Q : VK) (E : XK), Room k A → Env0 P w K mg base A outer s H → BindsTo s fd args (ps.zip us) → Vals vs us → sp vs H Q E →
    codeAny (model P w) A (.call (.ref f) args) (CR CX outer P w H s Q E) s
theorem FnOk.mono {P : Program} {w : World} {K : PySem.W.Frag} {mg : Str → Option Value} {base : Heap} {CX : CXT} {j k : Nat} {f : Addr} {fd : FuncData} {ps : List Str} {sp : Sp} (F : FnOk P w K mg base CX j f fd ps sp) (h : j ≤ k) :
    FnOk P w K mg base CX k f fd ps sp := ⟨F.len, fun A outer s H args us vs Q E hr => F.run A outer s H args us vs Q E (hr.mono h)⟩
/-- a weaker promise -/
theorem FnOk.imp {P : Program} {w : World} {K : PySem.W.Frag} {mg : Str → Option Value} {base : Heap} {CX : CXT} {k : Nat} {f : Addr} {fd : FuncData} {ps : List Str} {sp sp' : Sp} (F : FnOk P w K mg base CX k f fd ps sp)
    (h : ∀ vs H Q E, sp' vs H Q E → sp vs H Q E) : FnOk P w K mg base CX k f fd ps sp' :=
  ⟨fun vs H Q E q => F.len vs H Q E (h _ _ _ _ q), fun A outer s H args us vs Q E hr he hb hv hs => F.run A outer s H args us vs Q E hr he hb hv (h _ _ _ _ hs)⟩

theorem Env0.make {P : Program} {w : World} {K : PySem.W.Frag} {mg : Str → Option Value} {base : Heap} {A : Around} {outer : List Env} {s : Shared} {H : Hp} (e : Env0 P w K mg base A outer s H) (C : Addr) (us : List Value) (kw : List (Str × Value)) :
    Env0 P w K mg base (A.under (.builtin "type.__call__" ⟨.ref C :: us, kw⟩)) outer s H := ⟨by first | exact e.frames | (simpa [Around.under, Code.envs, Code.isFrame, pushEnvs] using e.frames), e.mod, e.bs, e.bsz, e.funs, e.frf, e.hok, e.bare⟩
theorem Env0.in1 {P : Program} {w : World} {K : PySem.W.Frag} {mg : Str → Option Value} {base : Heap} {A : Around} {outer : List Env} {s : Shared} {H : Hp} (e : Env0 P w K mg base A outer s H) :
    Env0 P w K mg base A.in1 outer s H := ⟨e.frames, e.mod, e.bs, e.bsz, e.funs, e.frf, e.hok, e.bare⟩

section
variable {X : Cx} {pins : List (Addr × Obj)} {σ : St} {H : Hp} {s s' : Shared}
/-- from a body: what a callee wants -/
theorem Inv.env0 (I : Inv X pins σ H s) : Env0 X.prog X.w X.K X.mg X.base X.A X.stack s H :=
  ⟨I.ok.frames, I.ok.mod, I.bs, Nat.le_trans I.ok.bsz I.sz, I.stack, I.stkFree, I.hok, I.bare⟩
/-- behind a call -/
theorem Inv.after {Q : VK} {u : Value} (I : Inv X pins σ H s) (h : CE X.stack X.prog X.w H s Q u s') : EP X pins σ Q u s' := by
  obtain ⟨v, H', os, bare, un, hok, r, q⟩ := h
  obtain ⟨hh, g, d, t, os'⟩ := s'
  obtain rfl : os' = s.os := os
  exact ⟨v, H', I.call (h' := hh) (g' := g) (d' := d) (t' := t) (ch := []) un hok bare (fun b z => absurd z (by simp)), r, q⟩
end

/-! ### calls -/
/-- f(..): the written arguments, then the defaults dvs; E: what is wanted of an exception -/
def tCall (sp : Sp) (dvs : List V) (E : XK) (t : TA) : TE := fun σ H Q => t σ H fun vs H1 => sp (vs ++ dvs) H1 Q E
/-- o.m(..) of an instance of the class at C -/
def tMeth (C : Addr) (m : Str) (sp : Sp) (dvs : List V) (E : XK) (ta : TE) (t : TA) : TE := fun σ H Q => ta σ H fun x H1 => ∃ a dx fs, x = .ref a ∧ H1 a = some (.ins C dx fs) ∧ fs.lookup m = none ∧
  t σ H1 fun vs H2 => sp (x :: (vs ++ dvs)) H2 Q E
/-- C(..): a new instance and its dict, then __init__ -/
def tMake (C : Addr) (sp : Sp) (dvs : List V) (E : XK) (t : TA) : TE := fun σ H Q => t σ H fun vs H1 => ∀ x dx, H1 x = none → H1 dx = none → dx ≠ x →
  sp (.ref x :: (vs ++ dvs)) (upd (upd H1 dx (.own x)) x (.ins C dx [])) (fun v H2 => v = .non ∧ Q (.ref x) H2) E

/-- how the parameters are bound: us the positional arguments, kw the keywords' values by name, ds the defaults that fill up -/
def Binds (K : PySem.W.Frag) (fd : FuncData) (ps : List Str) (ds : List Value) : Prop :=
  ∀ (s : Shared) (us : List Value), K.In s.heap → (us ++ ds).length = ps.length → BindsTo s fd ⟨us, []⟩ (ps.zip (us ++ ds))
/-- every parameter is given -/
theorem Binds.all {K : PySem.W.Frag} {fd : FuncData} {ps : List Str} (h : ∀ us : List Value, us.length = ps.length → bindArgs fd ⟨us, []⟩ = pure (ps.zip us)) : Binds K fd ps [] := fun s us _ hl => by
  rw [List.append_nil] at hl ⊢
  exact .of_eq (h us hl)

/-- an exception of a callee reaches what this body wants of exceptions -/
def Passes (CX : CXT) (X : Cx) (E : XK) : Prop := ∀ (pins : List (Addr × Obj)) (σ : St) (H : Hp) (s : Shared) (e : Value) (s' : Shared), Inv X pins σ H s → CX X.stack H s E e s' → X.xe e s'

section
variable {X : Cx} {CX : CXT} {k : Nat} {f C : Addr} {fd : FuncData} {ps : List Str} {sp : Sp} {dvs : List V} {ds : List Value} {E : XK} {x m : Str} {p pos apos : Pos} {e o : Expr} {es : List Expr} {ta : TE} {t : TA}

/-- the callee runs -/
theorem run_fn {pins : List (Addr × Obj)} {σ : St} {H : Hp} {s : Shared} {Q : VK} {us : List Value} {vs : List V} (F : FnOk X.prog X.w X.K X.mg X.base CX k f fd ps sp) (hr : Room k X.A) (hb : Binds X.K fd ps ds) (hd : Vals dvs ds) (hx : Passes CX X E)
    (I : Inv X pins σ H s) (r : Vals vs us) (h : sp (vs ++ dvs) H Q E) : wpAny (model X.prog X.w) X.A (call (.ref f) us) (EP X pins σ Q) X.xe s := by
  have r2 : Vals (vs ++ dvs) (us ++ ds) := r.append hd
  have hl : (us ++ ds).length = ps.length := by rw [← r2.length]; exact F.len _ _ _ _ h
  refine wpAny_call (codeAny_mono (F.run X.A X.stack s H ⟨us, []⟩ (us ++ ds) (vs ++ dvs) Q E hr I.env0 (hb s us I.kIn hl) r2 h) fun r s' hq => ?_)
  cases r with
  | error e => exact hx pins σ H s e s' I hq
  | ok fl =>
    cases fl with
    | ret u => exact I.after hq
    | next => exact False.elim hq
    | brk => exact False.elim hq
    | cont => exact False.elim hq

theorem pe_call (F : FnOk X.prog X.w X.K X.mg X.base CX k f fd ps sp) (hr : Room k X.A) (hg : Gl X x) (hm : X.mg x = some (.ref f)) (hk : PySem.W.keepIn X.K (.ref f) = true) (hb : Binds X.K fd ps ds) (hd : Vals dvs ds) (hx : Passes CX X E)
    (ha : PA X (e :: es) t) (hdb : (x == ("__debug__" : Str)) = false := by decide) (he : starEach (e :: es) X.env = (false, eval e X.env) :: starEach es X.env := by rfl) (hpl : (backTo pos (starEach es X.env)).any (·.1) = false := by rfl) :
    PE X (.Call (.Name x p) (e :: es) [] pos) (tCall sp dvs E t) := by
  intro pins s σ H Q I h
  refine wpAny_Call_Name_kw (ld_glob I hg hm ?_ hdb)
  refine PySem.W.callWith_K (h₀ := X.base) I.ok.mod.kin hk (thn (ha pos pins s σ H _ I h) fun us s1 ⟨vs, H1, I1, r, q⟩ => ⟨I1.kIn, ?_⟩) he hpl
  exact run_fn F hr hb hd hx I1 r q
theorem pe_call0 (F : FnOk X.prog X.w X.K X.mg X.base CX k f fd ps sp) (hr : Room k X.A) (hg : Gl X x) (hm : X.mg x = some (.ref f)) (hk : PySem.W.keepIn X.K (.ref f) = true) (hb : Binds X.K fd ps ds) (hd : Vals dvs ds) (hx : Passes CX X E)
    (hdb : (x == ("__debug__" : Str)) = false := by decide) : PE X (.Call (.Name x p) [] [] pos) (tCall sp dvs E tNil) := by
  intro pins s σ H Q I h
  refine wpAny_Call_Name_kw (ld_glob I hg hm ?_ hdb)
  exact PySem.W.callWith_K0 I.kIn hk (run_fn (us := []) F hr hb hd hx I .nil h)

/-- o.m(e, ..) -/
theorem pe_meth {pl : Sem Bool} (he : PE X o ta) (c : Cls X.K C) (hm : Meth X.K C m f) (F : FnOk X.prog X.w X.K X.mg X.base CX k f fd ps sp) (hr : Room k X.A) (hb : Binds X.K fd ps ds) (hd : Vals dvs ds) (hx : Passes CX X E) (ha : PA X (e :: es) t)
    (hst : starEach (e :: es) X.env = (false, eval e X.env) :: starEach es X.env := by rfl) (hpl : (backTo pos (starEach es X.env)).any (·.1) = false := by rfl)
    (ht : eval (.Call (.Attribute o m apos) (e :: es) [] pos) X.env = (do
      let ov ← eval o X.env
      standAt apos.atName
      let (f, first) ← holding [ov] (getMethod ov m pl)
      callWith pos f first (backTo pos (starEach (e :: es) X.env)) (backToKw pos (keywordEach [] X.env))) := by rfl) :
    PE X (.Call (.Attribute o m apos) (e :: es) [] pos) (tMeth C m sp dvs E ta t) := by
  intro pins s σ H Q I h
  refine PySem.W.methodCall_KW (pl := pl) (thn (he pins s σ H _ I h) fun u s1 ⟨x, H1, I1, rx, a, dx, fs, ex, ea, l, q⟩ => ?_) ht
  subst ex
  obtain rfl : u = Value.ref a := rx
  refine getmeth_ok I1 ea c hm l ?_
  refine PySem.W.callWith_K (first := [.ref a]) (h₀ := X.base) I.ok.mod.kin hm.kp (thn (ha pos pins s1 σ H1 _ I1 q) fun us s2 ⟨vs, H2, I2, r, q2⟩ => ⟨I2.kIn, ?_⟩) hst hpl
  exact run_fn (us := .ref a :: us) (vs := .ref a :: vs) F hr hb hd hx I2 (.cons rfl r) q2
/-- o.m() -/
theorem pe_meth0 {pl : Sem Bool} (he : PE X o ta) (c : Cls X.K C) (hm : Meth X.K C m f) (F : FnOk X.prog X.w X.K X.mg X.base CX k f fd ps sp) (hr : Room k X.A) (hb : Binds X.K fd ps ds) (hd : Vals dvs ds) (hx : Passes CX X E)
    (ht : eval (.Call (.Attribute o m apos) [] [] pos) X.env = (do
      let ov ← eval o X.env
      standAt apos.atName
      let (f, first) ← holding [ov] (getMethod ov m pl)
      callWith pos f first (backTo pos (starEach [] X.env)) (backToKw pos (keywordEach [] X.env))) := by rfl) :
    PE X (.Call (.Attribute o m apos) [] [] pos) (tMeth C m sp dvs E ta tNil) := by
  intro pins s σ H Q I h
  refine PySem.W.methodCall_KW (pl := pl) (thn (he pins s σ H _ I h) fun u s1 ⟨x, H1, I1, rx, a, dx, fs, ex, ea, l, q⟩ => ?_) ht
  subst ex
  obtain rfl : u = Value.ref a := rx
  refine getmeth_ok I1 ea c hm l ?_
  exact PySem.W.callWith_K0 (first := [.ref a]) I1.kIn hm.kp (run_fn (us := [.ref a]) (vs := [.ref a]) F hr hb hd hx I1 (.cons rfl .nil) q)

/-- what a class must have to be made -/
structure Mk (K : PySem.W.Frag) (C f : Addr) : Prop where
  makes : PySem.W.makesIn K C = true
  init : PySem.W.findIn K (.ref C) "__init__" = some (some (.ref f))
  fn : PySem.W.isFn K (.ref f) = true
  kp : PySem.W.keepIn K (.ref C) = true

theorem run_make {pins : List (Addr × Obj)} {σ : St} {H : Hp} {s : Shared} {Q : VK} {us : List Value} {vs : List V} (M : Mk X.K C f) (F : FnOk X.prog X.w X.K X.mg X.base CX k f fd ps sp) (hr : Room (k + 1) X.A) (hb : Binds X.K fd ps ds) (hd : Vals dvs ds)
    (hx : Passes CX X E) (I : Inv X pins σ H s) (r : Vals vs us)
    (h : ∀ x dx, H x = none → H dx = none → dx ≠ x → sp (.ref x :: (vs ++ dvs)) (upd (upd H dx (.own x)) x (.ins C dx [])) (fun v H2 => v = .non ∧ Q (.ref x) H2) E) :
    wpAny (model X.prog X.w) X.A (call (.ref C) us) (EP X pins σ Q) X.xe s := by
  have hq := h (s.heap.objs.size + 1) s.heap.objs.size (I.hok.fresh (Nat.le_succ _)) (I.hok.fresh (Nat.le_refl _)) (Nat.ne_of_lt (Nat.lt_succ_self _))
  have I2 := Inv.made (C := C) I
  have r2 : Vals (V.ref (s.heap.objs.size + 1) :: (vs ++ dvs)) (Value.ref (s.heap.objs.size + 1) :: (us ++ ds)) := .cons rfl (r.append hd)
  have hl : (Value.ref (s.heap.objs.size + 1) :: us ++ ds).length = ps.length := by
    have e := r2.length
    rw [F.len _ _ _ _ hq] at e
    exact e.symm
  refine wpAny_call (make_map (f := f) I.kIn M.makes M.init (beq_iff_eq.mp M.fn) (codeAny_mono (F.run _ X.stack _ _ ⟨Value.ref (s.heap.objs.size + 1) :: us, []⟩ (Value.ref (s.heap.objs.size + 1) :: (us ++ ds)) _ _ E (hr.make C us [])
    (I2.env0.make C us []) (hb _ (Value.ref (s.heap.objs.size + 1) :: us) I2.kIn hl) r2 hq) fun r s' hq' => ?_))
  cases r with
  | error e => exact hx pins σ _ _ e s' I2 hq'
  | ok fl =>
    cases fl with
    | ret u =>
      obtain ⟨v, H', I3, rv, ev, q3⟩ := I2.after hq'
      subst ev
      exact ⟨rv, ⟨V.ref (s.heap.objs.size + 1), H', I3, rfl, q3⟩⟩
    | next => exact False.elim hq'
    | brk => exact False.elim hq'
    | cont => exact False.elim hq'
theorem pe_make (M : Mk X.K C f) (F : FnOk X.prog X.w X.K X.mg X.base CX k f fd ps sp) (hr : Room (k + 1) X.A) (hg : Gl X x) (hm : X.mg x = some (.ref C)) (hb : Binds X.K fd ps ds) (hd : Vals dvs ds) (hx : Passes CX X E)
    (ha : PA X (e :: es) t) (hdb : (x == ("__debug__" : Str)) = false := by decide) (he : starEach (e :: es) X.env = (false, eval e X.env) :: starEach es X.env := by rfl) (hpl : (backTo pos (starEach es X.env)).any (·.1) = false := by rfl) :
    PE X (.Call (.Name x p) (e :: es) [] pos) (tMake C sp dvs E t) := by
  intro pins s σ H Q I h
  refine wpAny_Call_Name_kw (ld_glob I hg hm ?_ hdb)
  refine PySem.W.callWith_K (h₀ := X.base) I.ok.mod.kin M.kp (thn (ha pos pins s σ H _ I h) fun us s1 ⟨vs, H1, I1, r, q⟩ => ⟨I1.kIn, ?_⟩) he hpl
  exact run_make M F hr hb hd hx I1 r q
theorem pe_make0 (M : Mk X.K C f) (F : FnOk X.prog X.w X.K X.mg X.base CX k f fd ps sp) (hr : Room (k + 1) X.A) (hg : Gl X x) (hm : X.mg x = some (.ref C)) (hb : Binds X.K fd ps ds) (hd : Vals dvs ds) (hx : Passes CX X E)
    (hdb : (x == ("__debug__" : Str)) = false := by decide) : PE X (.Call (.Name x p) [] [] pos) (tMake C sp dvs E tNil) := by
  intro pins s σ H Q I h
  refine wpAny_Call_Name_kw (ld_glob I hg hm ?_ hdb)
  exact PySem.W.callWith_K0 I.kIn M.kp (run_make (us := []) M F hr hb hd hx I .nil h)
end

/-! ### keywords -/
/-- the values of the keywords, from the left -/
def PK (X : Cx) (kws : List Keyword) (t : TA) : Prop :=
  ∀ (pos : Pos) (pins : List (Addr × Obj)) (s : Shared) (σ : St) (H : Hp) (Q : List V → Hp → Prop), Inv X pins σ H s → t σ H Q → wpAny (model X.prog X.w) X.A (evalAll ((backToKw pos (keywordEach kws X.env)).map (·.2))) (AP X pins σ Q) X.xe s
section
variable {X : Cx} {CX : CXT} {k : Nat} {f C : Addr} {fd : FuncData} {ps ks : List Str} {sp : Sp} {E : XK} {x m : Str} {p pos apos kpos : Pos} {e o : Expr} {es : List Expr} {kws : List Keyword} {te ta : TE} {t tk : TA} {nm : Option Str}
theorem pk_nil : PK X [] tNil := fun _ _ _ _ H Q I h => wpAny_evalAll_nil ⟨[], H, I, .nil, h⟩
theorem pk_cons (ha : PE X e te) (hr : PK X kws t) : PK X (⟨nm, e, kpos⟩ :: kws) (tCons te t) := by
  intro pos pins s σ H Q I h
  show wpAny _ _ (evalAll ((do let v ← eval e X.env; standAt pos; pure v) :: (backToKw pos (keywordEach kws X.env)).map (·.2))) _ _ s
  refine wpAny_evalAll_cons (wpAny_bind (thn (ha pins s σ H _ I h) fun u s1 ⟨x, H1, I1, r1, q1⟩ => wpAny_bind (wpAny_standAt (wpAny_pure ?_))))
  exact thn (hr pos pins s1 σ H1 _ I1 q1) fun us s2 ⟨xs, H2, I2, r2, q2⟩ => ⟨x :: xs, H2, I2, .cons r1 r2, q2⟩

/-- how a call with keywords binds: g puts the positional values us and the keywords' values ws (names ks) in the parameters' order, defaults among them -/
structure KBinds (K : PySem.W.Frag) (fd : FuncData) (ps ks : List Str) (g : List Value → List Value → List Value) (gV : List V → List V → List V) : Prop where
  to : ∀ (s : Shared) (us ws : List Value), K.In s.heap → (g us ws).length = ps.length → BindsTo s fd ⟨us, ks.zip ws⟩ (ps.zip (g us ws))
  rel : ∀ {vs : List V} {us : List Value} {zs : List V} {ws : List Value}, Vals vs us → Vals zs ws → Vals (gV vs zs) (g us ws)
def tCallK (sp : Sp) (gV : List V → List V → List V) (E : XK) (t tk : TA) : TE := fun σ H Q => t σ H fun vs H1 => tk σ H1 fun zs H2 => sp (gV vs zs) H2 Q E
variable {g : List Value → List Value → List Value} {gV : List V → List V → List V}
theorem run_fnk {pins : List (Addr × Obj)} {σ : St} {H : Hp} {s : Shared} {Q : VK} {us ws : List Value} {vs zs : List V} (F : FnOk X.prog X.w X.K X.mg X.base CX k f fd ps sp) (hr : Room k X.A) (hb : KBinds X.K fd ps ks g gV) (hx : Passes CX X E)
    (I : Inv X pins σ H s) (r : Vals vs us) (rz : Vals zs ws) (h : sp (gV vs zs) H Q E) : wpAny (model X.prog X.w) X.A (call (.ref f) us (ks.zip ws)) (EP X pins σ Q) X.xe s := by
  have r2 := hb.rel r rz
  have hl : (g us ws).length = ps.length := by rw [← r2.length]; exact F.len _ _ _ _ h
  refine wpAny_call (codeAny_mono (F.run X.A X.stack s H ⟨us, ks.zip ws⟩ (g us ws) (gV vs zs) Q E hr I.env0 (hb.to s us ws I.kIn hl) r2 h) fun r s' hq => ?_)
  cases r with
  | error e => exact hx pins σ H s e s' I hq
  | ok fl =>
    cases fl with
    | ret u => exact I.after hq
    | next => exact False.elim hq
    | brk => exact False.elim hq
    | cont => exact False.elim hq
/-- f(e, .., k = v, ..) -/
theorem pe_callK (F : FnOk X.prog X.w X.K X.mg X.base CX k f fd ps sp) (hr : Room k X.A) (hg : Gl X x) (hm : X.mg x = some (.ref f)) (hk : PySem.W.keepIn X.K (.ref f) = true) (hb : KBinds X.K fd ps ks g gV) (hx : Passes CX X E)
    (ha : PA X (e :: es) t) (hkw : PK X kws tk) (hall : (backToKw pos (keywordEach kws X.env)).all (·.1.isSome) = true := by rfl) (hks : (backToKw pos (keywordEach kws X.env)).filterMap (·.1) = ks := by rfl)
    (hdb : (x == ("__debug__" : Str)) = false := by decide) (he : starEach (e :: es) X.env = (false, eval e X.env) :: starEach es X.env := by rfl)
    (hpl : ((backTo pos (starEach (e :: es) X.env)).any (·.1) || (backToKw pos (keywordEach kws X.env)).any (·.1.isNone)) = false := by rfl) :
    PE X (.Call (.Name x p) (e :: es) kws pos) (tCallK sp gV E t tk) := by
  intro pins s σ H Q I h
  refine wpAny_Call_Name_kw (ld_glob I hg hm ?_ hdb)
  refine PySem.W.callWith_KW (h₀ := X.base) I.ok.mod.kin hk hall (thn (ha pos pins s σ H _ I h) fun us s1 ⟨vs, H1, I1, r, q⟩ => ?_) hpl he
  refine thn (hkw pos pins s1 σ H1 _ I1 q) fun ws s2 ⟨zs, H2, I2, rz, q2⟩ => ⟨I2.kIn, ?_⟩
  rw [hks]
  exact run_fnk F hr hb hx I2 r rz q2
end

/-! ### a def's body keeps its promise -/
/-- names: the parameters first -/
structure FnScope (N P : List Str) (sc : Scope) : Prop where
  kind : sc.kind = .function
  co : sc.isCoroutine = false
  gen : sc.isGenerator = false
  nd : N.Nodup
  pre : N.take P.length = P
  par : ∀ x ∈ P, sc.names.lookup x = some .local ∨ sc.names.lookup x = some .cell
  nofree : ∀ y ∈ sc.names, y.2 ≠ .free

theorem bindL_out {kindOf : Str → Option NameKind} {x : Str} : ∀ {binds : List (Str × Value)} {m : Str → Option Value}, (∀ v, (x, v) ∉ binds) → bindL kindOf binds m x = m x
  | [], _, _ => rfl
  | (n, v) :: r, m, h => by
    unfold bindL
    rw [bindL_out fun w hw => h w (List.mem_cons_of_mem _ hw)]
    split
    · have : x ≠ n := by rintro rfl; exact h v List.mem_cons_self
      simp [this]
    · rfl
theorem bindC_out {kindOf : Str → Option NameKind} {x : Str} : ∀ {binds : List (Str × Value)} {m : Str → Option Value}, (∀ v, (x, v) ∉ binds) → bindC kindOf binds m x = m x
  | [], _, _ => rfl
  | (n, v) :: r, m, h => by
    unfold bindC
    rw [bindC_out fun w hw => h w (List.mem_cons_of_mem _ hw)]
    split
    · rfl
    · have : x ≠ n := by rintro rfl; exact h v List.mem_cons_self
      simp [this]
theorem bindL_get {kindOf : Str → Option NameKind} {x : Str} {v : Value} : ∀ {P : List Str} {vs : List Value} {i : Nat} {m : Str → Option Value}, P.Nodup → P[i]? = some x → vs[i]? = some v → kindOf x = some .local →
    bindL kindOf (P.zip vs) m x = some v
  | [], _, _, _, _, h, _, _ => by simp at h
  | _ :: _, [], _, _, _, _, h, _ => by simp at h
  | p :: P, w :: vs, 0, m, nd, h1, h2, hk => by
    simp at h1 h2; subst h1; subst h2
    show bindL kindOf ((p, w) :: P.zip vs) m p = _
    unfold bindL
    rw [bindL_out fun v hv => (List.nodup_cons.mp nd).1 (List.of_mem_zip hv).1, if_pos hk]
    simp
  | p :: P, w :: vs, i + 1, m, nd, h1, h2, hk => by
    show bindL kindOf ((p, w) :: P.zip vs) m x = _
    unfold bindL
    exact bindL_get (i := i) (List.nodup_cons.mp nd).2 (by simpa using h1) (by simpa using h2) hk
theorem bindC_get {kindOf : Str → Option NameKind} {x : Str} {v : Value} : ∀ {P : List Str} {vs : List Value} {i : Nat} {m : Str → Option Value}, P.Nodup → P[i]? = some x → vs[i]? = some v → kindOf x ≠ some .local →
    bindC kindOf (P.zip vs) m x = some v
  | [], _, _, _, _, h, _, _ => by simp at h
  | _ :: _, [], _, _, _, _, h, _ => by simp at h
  | p :: P, w :: vs, 0, m, nd, h1, h2, hk => by
    simp at h1 h2; subst h1; subst h2
    show bindC kindOf ((p, w) :: P.zip vs) m p = _
    unfold bindC
    rw [bindC_out fun v hv => (List.nodup_cons.mp nd).1 (List.of_mem_zip hv).1, if_neg hk]
    simp
  | p :: P, w :: vs, i + 1, m, nd, h1, h2, hk => by
    show bindC kindOf ((p, w) :: P.zip vs) m x = _
    unfold bindC
    exact bindC_get (i := i) (List.nodup_cons.mp nd).2 (by simpa using h1) (by simpa using h2) hk

/-- the names' values at the entry -/
def start (N : List Str) (vs : List V) : St := vs.map some ++ List.replicate (N.length - vs.length) none

/-- the context of a def's body, at its entry; an exception leaves the frame, then lies as CX says -/
def cxOf (CX : CXT) (P : Program) (w : World) (K : PySem.W.Frag) (mg : Str → Option Value) (base : Heap) (N : List Str) (qual : Str) (scope : Scope) (f : Addr) (cd : Value) (A : Around) (outer : List Env) (s : Shared) (H : Hp) (E : XK) : Cx where
  prog := P
  w := w
  K := K
  mg := mg
  base := base
  A := A.deeper (envOfC qual scope s.heap.objs.size f cd)
  N := N
  s₀ := s
  H₀ := H
  env := envOfC qual scope s.heap.objs.size f cd
  outer := outer
  stack := envOfC qual scope s.heap.objs.size f cd :: outer
  ex := []
  calm := true
  fn := fun _ => true
  pn := []
  xe := fun e s' => wpAny (model P w) (A.deeper (envOfC qual scope s.heap.objs.size f cd)) (leaving (envOfC qual scope s.heap.objs.size f cd) e) (fun _ s'' => CX outer H s E e s'') (fun e' s'' => CX outer H s E e' s'') s'

theorem cell_has {sc : Scope} {n : Nat} {x : Str} (h : sc.names.lookup x = some .cell) : ∃ c, (cellsFrom n sc.names []).lookup x = some c := by
  have q := PySem.W.cellsFrom_some sc.names n [] (.inl h)
  exact Option.isSome_iff_exists.mp q

theorem inv_start {CX : CXT} {P : Program} {w : World} {K : PySem.W.Frag} {mg : Str → Option Value} {base : Heap} {N ps : List Str} {qual : Str} {scope : Scope} {f : Addr} {cd : Value} {A : Around} {outer : List Env} {s s1 : Shared} {H : Hp} {E : XK} {us : List Value} {vs : List V}
    (S : FnScope N ps scope) (hd : A.handled = none) (e0 : Env0 P w K mg base A outer s H) (hl : vs.length = ps.length) (r : Vals vs us)
    (x : InCallC s s.heap.objs.size (bindL (envOfC qual scope s.heap.objs.size f cd).kindOf (ps.zip us) fun _ => none) (cellsFrom (s.heap.objs.size + 1) scope.names []) (bindC (envOfC qual scope s.heap.objs.size f cd).kindOf (ps.zip us) fun _ => none) s1) :
    Inv (cxOf CX P w K mg base N qual scope f cd A outer s H E) [] (start N vs) H s1 := by
  have hpl : ps.length ≤ N.length := by have := congrArg List.length S.pre; rw [List.length_take] at this; omega
  obtain ⟨h1, tk, rfl, hk⟩ := x.done
  have noA : ∀ b : Addr, b ∉ (cxOf CX P w K mg base N qual scope f cd A outer s H E).ex := fun b z => absurd (show b ∈ ([] : List Addr) from z) (by simp)
  refine ⟨⟨e0.mod, S.kind, rfl, rfl, Nat.le_refl _, fun y z c h1 h2 => ?_, fun y hy => ?_, fun y c _ h => ?_, fun _ => hd, Around.frames_deeper e0.frames, .inr ⟨rfl, rfl⟩, fun b z => absurd z (noA b), e0.bs, e0.bsz, fun b _ _ => noA b, fun b z => absurd z (noA b), e0.funs, e0.frf⟩,
    rfl, e0.bare, Un.kept hk, ⟨_, x.toInCall.ns, fun i y v h1 h2 h3 => ?_⟩, fun y c h => ⟨_, x.cell y c h⟩, e0.hok.fresh (Nat.le_refl _), fun y c h => ?_, fun p hp => absurd (show p ∈ ([] : List (Addr × Obj)) from hp) (by simp), e0.hok.kept hk, ?_⟩
  · exact name_of_addr x.apart (PySem.mem_of_lookup h1) (PySem.mem_of_lookup h2)
  · have hy : scope.names.lookup y = some .cell ∨ scope.names.lookup y = some .free := hy
    rcases hy with hy | hy
    · exact cell_has hy
    · exact absurd rfl (S.nofree _ (PySem.mem_of_lookup hy))
  · exact Nat.le_of_lt (x.above y c (PySem.mem_of_lookup h))
  · have hi : i < vs.length := by
      unfold start at h2
      by_cases hi : i < vs.length
      · exact hi
      · rw [List.getElem?_append_right (by simpa using hi)] at h2
        rw [List.getElem?_replicate] at h2
        split at h2 <;> cases h2
    have ha : vs[i]? = some v := by
      unfold start at h2
      rw [List.getElem?_append_left (by simpa using hi), List.getElem?_map] at h2
      cases e : vs[i]? with
      | none => rw [e] at h2; cases h2
      | some a => rw [e] at h2; cases h2; rfl
    obtain ⟨u, hu, rv⟩ := r.get ha
    have hp : ps[i]? = some y := by
      rw [← S.pre, List.getElem?_take_of_lt (by omega)]; exact h1
    have ndP : ps.Nodup := by rw [← S.pre]; exact S.nd.sublist (List.take_sublist _ _)
    refine ⟨u, rv, ?_⟩
    rcases S.par y (List.mem_of_getElem? hp) with k | k
    · exact .inl ⟨k, bindL_get ndP hp hu k⟩
    · obtain ⟨c, e⟩ := cell_has (n := s.heap.objs.size + 1) k
      refine .inr ⟨.inl k, c, e, ?_⟩
      have q := x.cell y c e
      rw [bindC_get ndP hp hu (by show scope.names.lookup y ≠ _; rw [k]; decide)] at q
      exact q
  · exact e0.hok.fresh (Nat.le_of_lt (x.above y c (PySem.mem_of_lookup h)))
  · unfold start
    show _ = N.length
    rw [List.length_append, List.length_map, List.length_replicate]
    omega

/-- THE RULE: a def (or a method) of the text, by its body. The body's reading t is chosen for each entry; it is run at the parameters' values -/
theorem fn_of {CX : CXT} {P : Program} {w : World} {K : PySem.W.Frag} {mg : Str → Option Value} {base : Heap} {k : Nat} {f : Addr} {name qual : Str} {params : Arguments} {body : List Stmt} {scope : Scope} {dV kV doc pm cdv ct oc : Value} {an od : Option Addr}
    {osl : Array (Option Value)} {N ps : List Str} {sp : Sp} (lk : K.lookup f = some ⟨oc, od, .func (PySem.W.fnOf name qual params body scope dV kV doc pm an cdv ct), osl⟩) (hcd : PySem.W.codeIn K cdv qual = true) (S : FnScope N ps scope)
    (len : ∀ vs H Q E, sp vs H Q E → vs.length = ps.length)
    (hbody : ∀ (A : Around) (outer : List Env) (s : Shared) (H : Hp) (vs : List V) (Q : VK) (E : XK), Room k (A.deeper (envOfC qual scope s.heap.objs.size f cdv)) → sp vs H Q E →
      ∃ t, PSs (cxOf CX P w K mg base N qual scope f cdv A outer s H E) body t ∧ t { nx := fun _ H' => Q .non H', rt := Q } (start N vs) H) :
    FnOk P w K mg base CX (k + 1) f (PySem.W.fnOf name qual params body scope dV kV doc pm an cdv ct) ps sp := by
  refine ⟨len, fun A outer s H args us vs Q E hr e0 hb r hsp => ?_⟩
  have hl := len _ _ _ _ hsp
  have KX : K.In s.heap := e0.mod.kin.keeps fun b o e => (e0.bs b o e).1
  have lim : s.heap.NoLimit := e0.mod.nolimit.keeps fun b o e => (e0.bs b o e).1
  have hkind : ∀ y ∈ ps.zip us, scope.names.lookup y.1 = some .local ∨ (scope.names.lookup y.1 = some .cell ∧ ((cellsFrom (s.heap.objs.size + 1) scope.names []).lookup y.1).isSome = true) := fun ⟨n, v⟩ hy => by
    rcases S.par n (List.of_mem_zip hy).1 with q | q
    · exact .inl q
    · exact .inr ⟨q, PySem.W.cellsFrom_some _ _ _ (.inl q)⟩
  refine codeAny_call_function hr.depth (KX _ _ lk) rfl S.co S.gen rfl (PySem.W.codeRec_of KX hcd) (hb _ _ _ _ ?_)
  refine wpAny_newFunctionEnv_cells S.kind hkind fun env he s1 x => ?_
  subst he
  refine ⟨lim.keeps x.toInCall.keep, codeAny_func ?_⟩
  obtain ⟨t, ht, hq⟩ := hbody A outer s H vs Q E (hr.deeper _) hsp
  have I : Inv (cxOf CX P w K mg base N qual scope f cdv A outer s H E) [] (start N vs) H s1 := inv_start S hr.hd e0 hl r x
  refine wpAny_mono (ht [] s1 (start N vs) H _ I hq) (fun fl s' hs => ?_) fun e s' hs => hs
  have fin : ∀ {σ' : St} {H' : Hp} {v : V} {u : Value}, Inv (cxOf CX P w K mg base N qual scope f cdv A outer s H E) [] σ' H' s' → RelV v u → Q v H' → CE outer P w H s Q u s' :=
    fun {σ' H' v u} J rv q => ⟨v, H', J.os, J.bare, J.base, J.hok, rv, q⟩
  cases fl with
  | ret u =>
    obtain ⟨v, σ', H', J, rv, q⟩ := hs
    exact fin J rv q
  | next =>
    obtain ⟨σ', H', J, q⟩ := hs
    exact fin (v := V.non) (u := Value.none) J rfl q
  | brk =>
    obtain ⟨_, _, _, q⟩ := hs
    exact False.elim q
  | cont =>
    obtain ⟨_, _, _, q⟩ := hs
    exact False.elim q
end L2

namespace L2
open PySem PySem.Spec PyProof.Rows
section
variable {X : Cx} {x : Str} {p pos : Pos} {e : Expr} {es : List Expr} {t : TA} {id T : String} {r : List V → Hp → VK → Prop}

def tCB (r : List V → Hp → VK → Prop) (t : TA) : TE := fun σ H Q => t σ H fun vs H1 => r vs H1 Q
/-- f(e, ..), f a built-in function -/
theorem pe_callB (hc : CallR X (.builtin id) r) (hg : Gl X x) (hm : X.mg x = none) (hv : bootBuiltins x = some (.builtin id)) (ha : PA X (e :: es) t) (hn : x ≠ "__name__" := by decide) (hdb : (x == ("__debug__" : Str)) = false := by decide)
    (he : starEach (e :: es) X.env = (false, eval e X.env) :: starEach es X.env := by rfl) (hpl : (backTo pos (starEach es X.env)).any (·.1) = false := by rfl) : PE X (.Call (.Name x p) (e :: es) [] pos) (tCB r t) := by
  intro pins s σ H Q I h
  refine wpAny_Call_Name_kw (ld_blt I hg hm hv ?_ hn hdb)
  exact PyProof.Rows.callWith_builtin1 (thn (ha pos pins s σ H _ I h) fun us s1 ⟨vs, H1, I1, r1, q1⟩ => hc pins s1 σ H1 vs us Q I1 r1 q1) he hpl
/-- T(e, ..), T a built-in type -/
theorem pe_callTy (hc : CallR X (.type T) r) (hg : Gl X x) (hm : X.mg x = none) (hv : bootBuiltins x = some (.type T)) (ha : PA X (e :: es) t) (hn : x ≠ "__name__" := by decide) (hdb : (x == ("__debug__" : Str)) = false := by decide)
    (he : starEach (e :: es) X.env = (false, eval e X.env) :: starEach es X.env := by rfl) (hpl : (backTo pos (starEach es X.env)).any (·.1) = false := by rfl) : PE X (.Call (.Name x p) (e :: es) [] pos) (tCB r t) := by
  intro pins s σ H Q I h
  refine wpAny_Call_Name_kw (ld_blt I hg hm hv ?_ hn hdb)
  exact PyProof.Rows.callWith_type1 (thn (ha pos pins s σ H _ I h) fun us s1 ⟨vs, H1, I1, r1, q1⟩ => hc pins s1 σ H1 vs us Q I1 r1 q1) he hpl
/-- T() -/
theorem pe_callTy0 (hc : CallR X (.type T) r) (hg : Gl X x) (hm : X.mg x = none) (hv : bootBuiltins x = some (.type T)) (hn : x ≠ "__name__" := by decide) (hdb : (x == ("__debug__" : Str)) = false := by decide) :
    PE X (.Call (.Name x p) [] [] pos) (tCB r tNil) := by
  intro pins s σ H Q I h
  refine wpAny_Call_Name_kw (ld_blt I hg hm hv ?_ hn hdb)
  exact PyProof.Rows.callWith_type0 (hc pins s σ H [] [] Q I .nil h)
end
end L2

namespace HT
open PySem PyProof.Rows

/-- t < u of tuples of ints -/
def lexLt : List Int → List Int → Bool
  | [], [] => false
  | [], _ :: _ => true
  | _ :: _, [] => false
  | x :: xs, y :: ys => if x = y then lexLt xs ys else decide (x < y)
theorem lexLt_cons (x y : Int) (xs ys : List Int) : lexLt (x :: xs) (y :: ys) = if x = y then lexLt xs ys else decide (x < y) := rfl
theorem lexLt_nil_nil : lexLt [] [] = false := rfl
theorem lexLt_nil_cons (y : Int) (ys : List Int) : lexLt [] (y :: ys) = true := rfl
theorem lexLt_cons_nil (x : Int) (xs : List Int) : lexLt (x :: xs) [] = false := rfl

theorem eqAt_int (A : Around) (s : Shared) (a : Int) (t : Tok) (c : Int) (u : Tok) : ∃ e, SeqAt.EqAt A s (.int a t) (.int c u) e ∧ (e = true ↔ a = c) :=
  ⟨(a == c), SeqAt.EqAt.int_int a t c u, by simp⟩
theorem rcLt_int (A : Around) (s : Shared) (a : Int) (t : Tok) (c : Int) (u : Tok) (prog : Program) (w : World) (E : Value → Shared → Prop) (Q : Value → Shared → Prop) (h : Q (.bool (decide (a < c))) s) :
    wpAny (model prog w) A (richCompare .Lt (.int a t) (.int c u)) Q E s :=
  (PyProof.Rows.lt_int h : wpAny (model prog w) A (compareOp .Lt (.int a t) (.int c u)) Q E s)

section
open PySem.SeqAt
open PySem.AutoSeq1 (wpAny_loadPart')
open PySem.MeetsSeq PySem.MeetsSeq2 PySem.MeetsSeq3

theorem tuple_lt_ints (l b : Addr) (items items2 : Array Value) (n n2 : Nat) (dd dd2 : Option Addr) (sl sl2 : Array (Option Value)) (ns ms : List Int) (hi : IntsAre items.toList ns) (hj : IntsAre items2.toList ms) :
    Meets (Builtin.«tuple.__lt__» ⟨[.ref l, .ref b], []⟩)
      (fun _ R s => s.heap.get? l = some { cls := .type "tuple", dict := dd, data := .seq items n, slots := sl } ∧ s.heap.get? b = some { cls := .type "tuple", dict := dd2, data := .seq items2 n2, slots := sl2 } ∧
        R (.ok (.ret (.bool (lexLt ns ms)))) s) :=
  .of_wp fun prog w A R s h => by
    obtain ⟨hp, g, d, tk, os⟩ := s; obtain ⟨hl, hb, h⟩ := h
    have f2 := AutoSeq1.sub_tuple_tuple
    have z1 : items.size = ns.length := by rw [← hi.length]; simp
    have z2 : items2.size = ms.length := by rw [← hj.length]; simp
    wp_walk using wpAny_loadPart' hl, wpAny_loadPart' hb, wpAny_forIn_list _ (fun rest b s' => b.1 = none ∧ s' = ⟨hp, g, d, tk, os⟩ ∧ ∃ (vs ws : List Value) (ns' ms' : List Int), rest = vs.zip ws ∧
      IntsAre vs ns' ∧ IntsAre ws ms' ∧ ns'.length + items2.size = ms'.length + items.size ∧ R (.ok (.ret (.bool (lexLt ns' ms')))) ⟨hp, g, d, tk, os⟩) _
    case turn =>
      rintro ⟨y, x⟩ rest b s' ⟨hb', rfl, vs, ws, ns', ms', hz, hvi, hwi, hlen, hR⟩
      cases hvi with
      | nil => rw [List.zip_nil_left] at hz; cases hz
      | cons a t hvi' =>
        cases hwi with
        | nil => rw [List.zip_nil_right] at hz; cases hz
        | cons c u hwi' =>
          rw [List.zip_cons_cons] at hz
          injection hz with hyx hrest
          injection hyx with hy hx
          subst hy hx
          rw [lexLt_cons] at hR
          simp only [List.length_cons] at hlen
          obtain ⟨e, he, hiff⟩ := eqAt_int A.in1 ⟨hp, g, d, tk, os⟩ a t c u
          refine wpAny_bind (he prog w _ _ ?_)
          cases e with
          | true =>
            rw [if_pos (hiff.mp rfl)] at hR
            wp_walk
            exact ⟨rfl, rfl, _, _, _, _, hrest, hvi', hwi', by omega, hR⟩
          | false =>
            rw [if_neg (fun q => absurd (hiff.mpr q) Bool.false_ne_true)] at hR
            have hri := rcLt_int A.in1 ⟨hp, g, d, tk, os⟩ a t c u prog w
            wp_walk using hri
            exact ⟨_, rfl, by simpa using hR⟩
    case fin =>
      rintro ⟨b1, b2⟩ s' ⟨hb', rfl, vs, ws, ns', ms', hz, hvi, hwi, hlen, hR⟩
      simp only at hb'
      subst hb'
      have hv : lexLt ns' ms' = decide (items.size < items2.size) := by
        cases hvi with
        | nil =>
          cases hwi with
          | nil =>
            simp only [List.length_nil] at hlen
            rw [lexLt_nil_nil]
            exact (decide_eq_false (by omega)).symm
          | cons c u hw =>
            simp only [List.length_nil, List.length_cons] at hlen
            rw [lexLt_nil_cons]
            exact (decide_eq_true (by omega)).symm
        | cons a t hv =>
          cases hwi with
          | nil =>
            simp only [List.length_nil, List.length_cons] at hlen
            rw [lexLt_cons_nil]
            exact (decide_eq_false (by omega)).symm
          | cons c u hw =>
            rw [List.zip_cons_cons] at hz
            cases hz
      rw [hv] at hR
      wp_walk
      exact ⟨_, rfl, by simpa [Builtin.Tuple.tupleCompareSizes] using hR⟩
    case h =>
      exact ⟨rfl, rfl, items.toList, items2.toList, ns, ms, rfl, hi, hj, by omega, h⟩
end

section
variable {prog : Program} {w : World} {A : Around} {E : Value → Shared → Prop} {s : Shared}

theorem lt_tupInts {l b : Addr} {items items2 : Array Value} {ns ms : List Int} {Q : Value → Shared → Prop} (hl : IsTup s.heap l items) (hb : IsTup s.heap b items2) (hi : IntsAre items.toList ns) (hj : IntsAre items2.toList ms)
    (hu : A.units < cLine) (h : Q (.bool (lexLt ns ms)) s) : wpAny (model prog w) A (compareOp .Lt (.ref l) (.ref b)) Q E s := by
  obtain ⟨⟨cls, dd, data, sl⟩, ho, hc, n, hd⟩ := id hl
  obtain ⟨⟨cls2, dd2, data2, sl2⟩, ho2, hc2, n2, hd2⟩ := id hb
  simp only at hc hd hc2 hd2
  subst hc hd hc2 hd2
  exact richCompare_meets_room (op := .Lt) ⟨_, ho, rfl⟩ ⟨_, ho2, rfl⟩ PySem.F.slot_tuple_lt PySem.F.entry_tuple_lt (PySem.F.args_tuple_lt_2 _ _) (tuple_lt_ints l b items items2 n n2 dd dd2 sl sl2 ns ms hi hj)
    ⟨ho, ho2, show Value.bool (lexLt ns ms) ≠ Value.notImplemented ∧ Q (.bool (lexLt ns ms)) s from ⟨(fun x => nomatch x), h⟩⟩ hu

/-- t + u, t not empty -/
theorem cat_tup {t b : Addr} {vs ws : List Value} {Q : Value → Shared → Prop} (ht : IsTup s.heap t vs.toArray) (hb : IsTup s.heap b ws.toArray) (hv : vs ≠ [])
    (h1 : ws = [] → Q (.ref t) s) (h2 : ws ≠ [] → Q (.ref s.heap.objs.size) { s with heap := s.heap.push { cls := .type "tuple", data := .seq (vs ++ ws).toArray } })
    (hsz : vs.length + ws.length ≤ sizeLine) : wpAny (model prog w) A (binaryOp .Add (.ref t) (.ref b)) Q E s := by
  obtain ⟨⟨cls, dd, data, sl⟩, ho, hc, n, hd⟩ := id ht
  obtain ⟨⟨cls2, dd2, data2, sl2⟩, ho2, hc2, n2, hd2⟩ := id hb
  simp only at hc hd hc2 hd2
  subst hc hd hc2 hd2
  have e : vs.toArray ++ ws.toArray = (vs ++ ws).toArray := by simp
  by_cases hw : ws = []
  · exact concat_meets ⟨_, ho, rfl⟩ ⟨_, ho2, rfl⟩ noFill_tuple_add seq_tuple_add PySem.F.slot_tuple_add PySem.F.entry_tuple_add (PySem.F.args_tuple_add_2 _ _)
      (tuple_addW1 t b vs.toArray ws.toArray n n2 dd dd2 sl sl2 (by simpa using hv) (by simp [hw])) ⟨ho, ho2, h1 hw⟩
  · refine concat_meets ⟨_, ho, rfl⟩ ⟨_, ho2, rfl⟩ noFill_tuple_add seq_tuple_add PySem.F.slot_tuple_add PySem.F.entry_tuple_add (PySem.F.args_tuple_add_2 _ _)
      (tuple_addW2 t b vs.toArray ws.toArray n n2 dd dd2 sl sl2 (by simpa using hv) (by simpa using hw) (by rw [List.size_toArray, List.size_toArray]; exact hsz)) ⟨ho, ho2, ?_⟩
    rw [e]
    exact h2 hw

/-! ### t[a:b], not the whole -/
/-- a slice's bound as a place among n (d where it is left out) -/
def sIx (n d : Nat) : Option Int → Nat
  | none => d
  | some v => if v < 0 then (v + (n : Int)).toNat else min v.toNat n
theorem sIx_none (n d : Nat) : sIx n d none = d := rfl
theorem sIx_nat (n d k : Nat) : sIx n d (some (k : Int)) = min k n := by
  show (if (k : Int) < 0 then ((k : Int) + (n : Int)).toNat else min (k : Int).toNat n) = min k n
  rw [if_neg (by omega), Int.toNat_natCast]
theorem sIx_le (n d : Nat) (hd : d ≤ n) (o : Option Int) : sIx n d o ≤ n := by
  cases o with
  | none => exact hd
  | some v =>
    show (if v < 0 then (v + (n : Int)).toNat else min v.toNat n) ≤ n
    by_cases hv : v < 0
    · rw [if_pos hv]; omega
    · rw [if_neg hv]; exact Nat.min_le_right _ _
theorem clip_eq (v : Int) (n d : Nat) : (if v < 0 then max (v + (n : Int)) 0 else min v (n : Int)) = ((sIx n d (some v) : Nat) : Int) := by
  show (if v < 0 then max (v + (n : Int)) 0 else min v (n : Int)) = (((if v < 0 then (v + (n : Int)).toNat else min v.toNat n) : Nat) : Int)
  by_cases hv : v < 0
  · simp only [if_pos hv]; omega
  · simp only [if_neg hv]; omega
theorem adjust_gen (lo hi : Option Int) (n : Nat) : Builtin.Slice.sliceAdjust lo hi 1 (n : Int) = (((sIx n 0 lo : Nat) : Int), ((sIx n n hi : Nat) : Int)) := by
  have h1 : ¬ ((1 : Int) < 0) := by omega
  unfold Builtin.Slice.sliceAdjust
  simp only [h1, if_false]
  refine Prod.ext ?_ ?_
  · cases lo with
    | none => rfl
    | some v => exact clip_eq v n 0
  · cases hi with
    | none => rfl
    | some v => exact clip_eq v n n
theorem places_gen (i j : Nat) : Builtin.Slice.slicePlaces (i : Int) (j : Int) 1 = j - i := by
  unfold Builtin.Slice.slicePlaces
  have h1 : (1 : Int) > 0 := by omega
  simp only [h1, if_true, Int.ediv_one]
  split <;> omega
theorem slicePart_ {v : Value} {o : Option Int} {Q : Option Int → Shared → Prop} (p : IsPart v o) (h : Q o s) : wpAny (model prog w) A (Builtin.Slice.slicePartIndex v) Q E s := by
  cases p with
  | none => exact slicePart_none h
  | int i t => exact slicePart_int h
theorem sliceApplied_gen {sl : Addr} {vl vu : Value} {lo hi : Option Int} {n : Nat} {Q : Int × Int × Nat → Shared → Prop} (hs : s.heap.IsSliceOf sl vl vu .none) (pl : IsPart vl lo) (pu : IsPart vu hi)
    (h : Q (((sIx n 0 lo : Nat) : Int), 1, sIx n n hi - sIx n 0 lo) s) : wpAny (model prog w) A (Builtin.Slice.sliceApplied (.ref sl) (pure (n : Int))) Q E s := by
  obtain ⟨os, hos, hcs, hds⟩ := id hs
  unfold Builtin.Slice.sliceApplied Builtin.Slice.sliceFields
  refine wpAny_bind (wpAny_bind (wpAny_field hos hds (x := vl) rfl (wpAny_bind (wpAny_field hos hds (x := vu) rfl (wpAny_bind (wpAny_field hos hds (x := .none) rfl (wpAny_pure ?_)))))))
  refine wpAny_bind (slicePart_none ?_)
  show wpAny _ _ (if ((1 : Int) == 0) = true then _ else _) _ _ s
  rw [if_neg (by decide)]
  refine wpAny_bind (slicePart_ pl (wpAny_bind (slicePart_ pu (wpAny_bind (wpAny_pure ?_)))))
  show wpAny _ _ (match Builtin.Slice.sliceAdjust lo hi 1 (n : Int) with | (lo, hi) => pure (lo, (1 : Int), Builtin.Slice.slicePlaces lo hi 1)) _ _ s
  rw [adjust_gen lo hi n]
  show wpAny _ _ (pure (((sIx n 0 lo : Nat) : Int), (1 : Int), Builtin.Slice.slicePlaces ((sIx n 0 lo : Nat) : Int) ((sIx n n hi : Nat) : Int) 1)) _ _ s
  rw [places_gen]
  exact wpAny_pure h
theorem pick_gen (xs : Array Value) (i k : Nat) : ((List.range k).filterMap fun (m : Nat) => xs[((i : Int) + (m : Int) * 1).toNat]?).toArray = ((xs.toList.drop i).take k).toArray := by
  have e : (fun (m : Nat) => xs[((i : Int) + (m : Int) * 1).toNat]?) = fun m => xs[i + m]? := by
    funext m
    have : ((i : Int) + (m : Int) * 1).toNat = i + m := by omega
    rw [this]
  rw [e]
  have := pick_run xs i k
  rw [List.filterMap_map] at this
  have e2 : ((fun x => xs[x]?) ∘ fun x => i + x) = fun m => xs[i + m]? := rfl
  rw [e2] at this
  rw [this]

theorem getItem_tuple_cut {t sl : Addr} {items : Array Value} {vl vu : Value} {lo hi : Option Int} {Q : Value → Shared → Prop} (ht : IsTup s.heap t items) (hs : s.heap.IsSliceOf sl vl vu .none) (pl : IsPart vl lo) (pu : IsPart vu hi)
    (hw : ¬ (sIx items.size 0 lo = 0 ∧ sIx items.size items.size hi = items.size))
    (h : Q (.ref s.heap.objs.size) { s with heap := s.heap.push { cls := .type "tuple", data := .seq ((items.toList.drop (sIx items.size 0 lo)).take (sIx items.size items.size hi - sIx items.size 0 lo)).toArray } })
    (hsz : items.size ≤ sizeLine) : wpAny (model prog w) A (getItem (.ref t) (.ref sl)) Q E s := by
  have htake : sizeOk (.seq ((items.toList.drop (sIx items.size 0 lo)).take (sIx items.size items.size hi - sIx items.size 0 lo)).toArray) := by
    show ((items.toList.drop (sIx items.size 0 lo)).take (sIx items.size items.size hi - sIx items.size 0 lo)).toArray.size ≤ sizeLine
    rw [List.size_toArray, List.length_take, List.length_drop, Array.length_toList]
    omega
  have hj : sIx items.size items.size hi ≤ items.size := sIx_le _ _ (Nat.le_refl _) hi
  obtain ⟨os, hos, hcs, hds⟩ := id hs
  have hTs : s.TypeIs (.ref sl) "slice" := ⟨os, hos, hcs⟩
  unfold getItem
  try with_reducible refine wpAny_holding ?_
  first | refine wpAny_bind (wpAny_pure ?_) | skip
  refine wpAny_bind (wpAny_sequenceKey ht.typeIs (by decide) ?_)
  refine wpAny_bind (wpAny_callSpecial?_slot (name := Str.ofString "__getitem__") ht.typeIs PyProof.Rows.slot_tuple_getitem
    (wpAny_call_entry PyProof.Rows.slot_tuple_getitem ht.typeIs entry_tuple_getitem ?_ (args_tuple_getitem _ _)))
  show wpAny _ _ (Builtin.Tuple.tupleItemsOf (.ref t) >>= _) _ _ s
  refine wpAny_bind (tupleItemsOf_ ht ?_)
  refine wpAny_bind (wpAny_typeOf hTs ?_)
  rw [if_pos (by decide)]
  refine wpAny_bind (sliceApplied_gen hs pl pu ?_)
  have hno : ¬ ((((sIx items.size 0 lo : Nat) : Int) == 0 && (1 : Int) == 1 && (sIx items.size items.size hi - sIx items.size 0 lo) == items.size) = true) := by
    intro q
    rw [Bool.and_eq_true, Bool.and_eq_true] at q
    have q1 : ((sIx items.size 0 lo : Nat) : Int) = 0 := eq_of_beq q.1.1
    have q2 : sIx items.size items.size hi - sIx items.size 0 lo = items.size := eq_of_beq q.2
    exact hw ⟨by omega, by omega⟩
  show wpAny _ _ (if (((sIx items.size 0 lo : Nat) : Int) == 0 && (1 : Int) == 1 && (sIx items.size items.size hi - sIx items.size 0 lo) == items.size) = true then _ else _) _ _ s
  rw [if_neg hno, pick_gen]
  first
    | exact wpAny_bind (m := Builtin.Tuple.tupleExact _) (wpAny_newObj_type (wpAny_pure ⟨_, rfl, wpAny_pure h⟩) htake)
    | exact wpAny_bind (m := Builtin.Tuple.tupleExact _) (wpAny_newObj_type (wpAny_bind (wpAny_pure (wpAny_pure ⟨_, rfl, wpAny_pure h⟩))) htake)
    | exact wpAny_bind (wpAny_bind (m := Builtin.Tuple.tupleExact _) (wpAny_newObj_type (wpAny_pure (wpAny_pure ⟨_, rfl, wpAny_pure h⟩)) htake))
    | exact wpAny_bind (wpAny_bind (m := Builtin.Tuple.tupleExact _) (wpAny_newObj_type (wpAny_pure ⟨_, rfl, wpAny_pure h⟩) htake))
end
end HT

namespace L2
open PySem PySem.Spec PyProof.Rows

/-! ### the parts of a slice -/
abbrev TO := St → Hp → (Option Int → Hp → Prop) → Prop
/-- a slice's part (left out, or an int) -/
def PO (X : Cx) (e : Option Expr) (t : TO) : Prop :=
  ∀ (pins : List (Addr × Obj)) (s : Shared) (σ : St) (H : Hp) (Q : Option Int → Hp → Prop), Inv X pins σ H s → t σ H Q →
    wpAny (model X.prog X.w) X.A (evalPart e X.env) (fun u s' => ∃ o H', Inv X pins σ H' s' ∧ IsPart u o ∧ Q o H') X.xe s
def tNoPart : TO := fun _ H Q => Q none H
def tPart (t : TE) : TO := fun σ H Q => t σ H fun x H1 => ∃ i, x = .int i ∧ Q (some i) H1

theorem intsAre_of {ns : List Int} : ∀ {us : List Value}, Vals (ns.map V.int) us → IntsAre us ns := by
  induction ns with
  | nil => intro us r; rw [List.map_nil] at r; cases r; exact .nil
  | cons n ns ih =>
    intro us r
    rw [List.map_cons] at r
    cases r with
    | cons r1 r2 =>
      obtain ⟨t, e⟩ := r1
      subst e
      exact .cons n t (ih r2)

section
variable {X : Cx} {e : Expr} {te : TE} {lo hi : Option Expr} {tl th : TO} {pos p2 : Pos}

theorem po_none : PO X none tNoPart := by
  intro pins s σ H Q I h
  rw [evalPart_none]
  exact wpAny_pure ⟨none, H, I, .none, h⟩
theorem po_some (h : PE X e te) : PO X (some e) (tPart te) := by
  intro pins s σ H Q I hw
  rw [evalPart_some]
  refine thn (h pins s σ H _ I hw) fun u s1 ⟨x, H1, I1, r1, q1⟩ => ?_
  obtain ⟨i, rfl, q⟩ := q1
  obtain ⟨t, rfl⟩ := r1
  exact ⟨some i, H1, I1, .int i t, q⟩

/-- what a slice of a value is, by values: the slice object stands at sl -/
def SlR (X : Cx) (r : V → Option Int → Option Int → Hp → VK → Prop) : Prop :=
  ∀ (pins : List (Addr × Obj)) (s : Shared) (σ : St) (H : Hp) (x : V) (v vl vu : Value) (lo hi : Option Int) (sl : Addr) (Q : VK), Inv X pins σ H s → RelV x v → s.heap.IsSliceOf sl vl vu .none → IsPart vl lo → IsPart vu hi → r x lo hi H Q →
    ∃ T id, typeLookup (.type T) "__getitem__" = pure (some (.builtin id)) ∧ s.TypeIs v T ∧ wpAny (model X.prog X.w) X.A (getItem v (.ref sl)) (EP X pins σ Q) X.xe s
theorem SlR.or {r r' : V → Option Int → Option Int → Hp → VK → Prop} (h : SlR X r) (h' : SlR X r') : SlR X (fun x lo hi H Q => r x lo hi H Q ∨ r' x lo hi H Q) := by
  intro pins s σ H x v vl vu lo hi sl Q I rx hs pl pu q
  rcases q with q | q
  · exact h pins s σ H x v vl vu lo hi sl Q I rx hs pl pu q
  · exact h' pins s σ H x v vl vu lo hi sl Q I rx hs pl pu q
def tSl (r : V → Option Int → Option Int → Hp → VK → Prop) (te : TE) (tl th : TO) : TE := fun σ H Q => te σ H fun x H1 => tl σ H1 fun l H2 => th σ H2 fun u H3 => r x l u H3 Q
/-- a[lo:hi], any a -/
theorem pe_slice {r : V → Option Int → Option Int → Hp → VK → Prop} (hr : SlR X r) (he : PE X e te) (hl : PO X lo tl) (hu : PO X hi th) : PE X (.Subscript e (.Slice lo hi none p2) pos) (tSl r te tl th) := by
  intro pins s σ H Q I h
  refine Subscript_ (thn (he pins s σ H _ I h) fun v s1 ⟨x, H1, I1, r1, q1⟩ => ?_)
  refine wpAny_Slice (thn (hl pins s1 σ H1 _ I1 q1) fun vl s2 ⟨l, H2, I2, pl, q2⟩ => thn (hu pins s2 σ H2 _ I2 q2) fun vu s3 ⟨u, H3, I3, pu, q3⟩ => ?_)
  rw [evalPart_none]
  refine wpAny_pure ?_
  have I4 : Inv X pins σ H3 { s3 with heap := s3.heap.push { cls := .type "slice", data := .fields #[vl, vu, .none] } } := I3.kept (t' := s3.toks) fun b ob q => Heap.get?_push_of_some _ q
  obtain ⟨T, id, hT, ht, hg⟩ := hr pins { s3 with heap := s3.heap.push { cls := .type "slice", data := .fields #[vl, vu, .none] } } σ H3 x v vl vu l u s3.heap.objs.size Q I4 r1 (Heap.IsSliceOf.new ..) pl pu q3
  show wpAny (model X.prog X.w) X.A (subscriptTail e (.Slice lo hi none p2) v (.ref s3.heap.objs.size)) (EP X pins σ Q) X.xe { s3 with heap := s3.heap.push { cls := .type "slice", data := .fields #[vl, vu, .none] } }
  exact tail_any (ops := [.ref s3.heap.objs.size, v]) ht hT hg (by with_unfolding_all rfl)

/-- the items of xs[lo:hi] -/
def cutV (xs : List V) (lo hi : Option Int) : List V := (xs.drop (HT.sIx xs.length 0 lo)).take (HT.sIx xs.length xs.length hi - HT.sIx xs.length 0 lo)
theorem cutV_length (xs : List V) (lo hi : Option Int) : (cutV xs lo hi).length ≤ xs.length := by
  unfold cutV
  rw [List.length_take, List.length_drop]
  omega
/-- t[lo:hi], not the whole of it (the whole would be t itself) -/
def rSlT (K : PySem.W.Frag) : V → Option Int → Option Int → Hp → VK → Prop := fun x lo hi H Q => ∃ a xs, x = .ref a ∧ SqT K H a xs ∧
  ¬ (HT.sIx xs.length 0 lo = 0 ∧ HT.sIx xs.length xs.length hi = xs.length) ∧ ∀ p, H p = none → Q (.ref p) (upd H p (.tup (cutV xs lo hi)))
theorem sl_tup : SlR X (rSlT X.K) := by
  intro pins s σ H x v vl vu lo hi sl Q I rx hs pl pu h
  obtain ⟨a, xs, rfl, hx, hw, q⟩ := h
  cases rx
  obtain ⟨its, r, ht, hz⟩ := I.tuple hx
  have hlen : its.toArray.size = xs.length := by rw [List.size_toArray]; exact r.length.symm
  refine ⟨"tuple", _, PyProof.Rows.slot_tuple_getitem.lookup, ht.typeIs, ?_⟩
  refine HT.getItem_tuple_cut ht hs pl pu (by rw [hlen]; exact hw) ?_ (by rw [hlen]; exact hz)
  rw [hlen]
  refine ⟨.ref s.heap.objs.size, _, I.laid (t' := s.toks) (o := .tup (cutV xs lo hi)) (fun b ob q => Heap.get?_push_of_some _ q) (Nat.le_refl _) ?_, rfl, q _ (I.hok.fresh (Nat.le_refl _))⟩
  exact ⟨Nat.le_trans (cutV_length xs lo hi) hz, _, (r.drop (HT.sIx xs.length 0 lo)).take (HT.sIx xs.length xs.length hi - HT.sIx xs.length 0 lo), IsTup.new _ _⟩

/-! ### t < u, t + u -/
def rLtT (K : PySem.W.Frag) : R2 := fun x y H Q => ∃ a b ns ms, x = .ref a ∧ y = .ref b ∧ SqT K H a (ns.map V.int) ∧ SqT K H b (ms.map V.int) ∧ Q (.bl (HT.lexLt ns ms)) H
theorem op_ltT (hu : X.A.units < cLine) : OpR X (compareOp .Lt) (rLtT X.K) := by
  intro pins s σ H x y v u Q I rx ry h
  obtain ⟨a, b, ns, ms, rfl, rfl, ha, hb, q⟩ := h
  cases rx
  cases ry
  obtain ⟨its, r1, p1, _⟩ := I.tuple ha
  obtain ⟨its2, r2, p2, _⟩ := I.tuple hb
  have i1 : IntsAre its.toArray.toList ns := intsAre_of r1
  have i2 : IntsAre its2.toArray.toList ms := intsAre_of r2
  exact HT.lt_tupInts p1 p2 i1 i2 hu ⟨.bl (HT.lexLt ns ms), H, I, rfl, q⟩
/-- t + u, t not empty: u empty gives t itself -/
def rCatT (K : PySem.W.Frag) : R2 := fun x y H Q => ∃ a b xs ys, x = .ref a ∧ y = .ref b ∧ SqT K H a xs ∧ SqT K H b ys ∧ xs ≠ [] ∧ xs.length + ys.length ≤ sizeLine ∧
  (ys = [] → Q (.ref a) H) ∧ (ys ≠ [] → ∀ p, H p = none → Q (.ref p) (upd H p (.tup (xs ++ ys))))
theorem Vals.nil_iff {xs : List V} {us : List Value} (r : Vals xs us) : us = [] ↔ xs = [] := by
  cases r with
  | nil => simp
  | cons _ _ => simp
theorem op_catT : OpR X (binaryOp .Add) (rCatT X.K) := by
  intro pins s σ H x y v u Q I rx ry h
  obtain ⟨a, b, xs, ys, rfl, rfl, ha, hb, hx, hz, q1, q2⟩ := h
  cases rx
  cases ry
  obtain ⟨its, r1, p1, _⟩ := I.tuple ha
  obtain ⟨its2, r2, p2, _⟩ := I.tuple hb
  refine HT.cat_tup p1 p2 (fun z => hx (r1.nil_iff.mp z)) (fun z => ⟨.ref a, H, I, rfl, q1 (r2.nil_iff.mp z)⟩) (fun z => ?_) (by rw [← r1.length, ← r2.length]; exact hz)
  refine ⟨.ref s.heap.objs.size, _, I.laid (t' := s.toks) (o := .tup (xs ++ ys)) (fun b ob q => Heap.get?_push_of_some _ q) (Nat.le_refl _) ?_, rfl, q2 (fun w => z (r2.nil_iff.mpr w)) _ (I.hok.fresh (Nat.le_refl _))⟩
  exact ⟨by rw [List.length_append]; exact hz, _, r1.append r2, IsTup.new _ _⟩
/-- tuple(t) -/
theorem call_tupleT : CallR X (.type "tuple") (fun xs H Q => ∃ a ys, xs = [.ref a] ∧ SqT X.K H a ys ∧ Q (.ref a) H) := by
  intro pins s σ H xs us Q I r h
  obtain ⟨a, ys, rfl, ha, q⟩ := h
  obtain ⟨u, rfl, ru⟩ := vals1 r
  cases ru
  obtain ⟨its, _, p1, _⟩ := I.tuple ha
  exact call_tuple_same (items := its.toArray) p1 ⟨.ref a, H, I, rfl, q⟩
end
end L2

namespace L2
open PySem PySem.Spec PyProof.Rows

/-! ### places -/
/-- the place that an index of any sign means -/
def ixN (n : Nat) (i : Int) : Option Nat := if 0 ≤ i then (if i < n then some i.toNat else none) else if -(n : Int) ≤ i then some (i + n).toNat else none
def atI {α : Type} (xs : List α) (i : Int) : Option α := (ixN xs.length i).bind fun j => xs[j]?
theorem ixN_seq {n : Nat} {i : Int} {j : Nat} (h : ixN n i = some j) : seqIndex? i n = some j ∧ j < n ∧ -(n : Int) ≤ i ∧ i < n := by
  unfold ixN at h
  by_cases h0 : 0 ≤ i
  · rw [if_pos h0] at h
    by_cases h1 : i < n
    · rw [if_pos h1] at h
      have e : i.toNat = j := Option.some.inj h
      exact ⟨by rw [seqIndex_of h0 h1, e], by omega, by omega, h1⟩
    · rw [if_neg h1] at h; cases h
  · rw [if_neg h0] at h
    by_cases h1 : -(n : Int) ≤ i
    · rw [if_pos h1] at h
      have e : (i + n).toNat = j := Option.some.inj h
      exact ⟨by rw [seqIndex_neg (by omega) h1, e], by omega, h1, by omega⟩
    · rw [if_neg h1] at h; cases h
theorem atI_get {α : Type} {xs : List α} {i : Int} {v : α} (h : atI xs i = some v) : ∃ j, seqIndex? i xs.length = some j ∧ xs[j]? = some v ∧ j < xs.length ∧ -(xs.length : Int) ≤ i ∧ i < xs.length := by
  unfold atI at h
  cases e : ixN xs.length i with
  | none => rw [e] at h; cases h
  | some j =>
    rw [e] at h
    obtain ⟨h1, h2, h3, h4⟩ := ixN_seq e
    exact ⟨j, h1, h, h2, h3, h4⟩
theorem atI_nat {α : Type} {xs : List α} {j : Nat} {v : α} (h : xs[j]? = some v) : atI xs (j : Int) = some v := by
  have hj : j < xs.length := (List.getElem?_eq_some_iff.mp h).1
  have e : ixN xs.length (j : Int) = some j := by
    unfold ixN
    rw [if_pos (by omega), if_pos (by omega)]; simp
  unfold atI; rw [e]; exact h
theorem atI_last {α : Type} (xs : List α) (v : α) : atI (xs ++ [v]) (-1) = some v := by
  have hl : (xs ++ [v]).length = xs.length + 1 := by simp
  have e : ixN (xs ++ [v]).length (-1) = some xs.length := by
    unfold ixN
    rw [hl, if_neg (by decide), if_pos (by omega)]
    congr 1
    omega
  unfold atI
  rw [e]
  show (xs ++ [v])[xs.length]? = some v
  simp

/-! ### what may be subscripted -/
/-- what stands as an index of a plain subscript -/
def PlainIx (b : Expr) : Prop := ∀ o i, subscripted b false o i = operate [o, i] (getItem o i)
/-- a subscript by values -/
def IxR (X : Cx) (r : R2) : Prop :=
  ∀ (value slice : Expr) (pins : List (Addr × Obj)) (s : Shared) (σ : St) (H : Hp) (x y : V) (v u : Value) (Q : VK), Inv X pins σ H s → RelV x v → RelV y u → r x y H Q →
    subscripted slice false v u = operate [v, u] (getItem v u) → wpAny (model X.prog X.w) X.A (subscriptTail value slice v u) (EP X pins σ Q) X.xe s
/-- a call of a builtin's method by values: the receiver, the arguments -/
def MtR (X : Cx) (id : String) (r : V → List V → Hp → VK → Prop) : Prop :=
  ∀ (pins : List (Addr × Obj)) (s : Shared) (σ : St) (H : Hp) (x : V) (xs : List V) (v : Value) (us : List Value) (Q : VK), Inv X pins σ H s → RelV x v → Vals xs us → r x xs H Q →
    wpAny (model X.prog X.w) X.A (call (.builtin id) (v :: us)) (EP X pins σ Q) X.xe s
section
variable {X : Cx} {a b : Expr} {ta tb : TE} {pos : Pos}
theorem IxR.or {r r' : R2} (h : IxR X r) (h' : IxR X r') : IxR X (fun x y H Q => r x y H Q ∨ r' x y H Q) := by
  intro value slice pins s σ H x y v u Q I rx ry q hs
  rcases q with q | q
  · exact h value slice pins s σ H x y v u Q I rx ry q hs
  · exact h' value slice pins s σ H x y v u Q I rx ry q hs
theorem MtR.or {id : String} {r r' : V → List V → Hp → VK → Prop} (h : MtR X id r) (h' : MtR X id r') : MtR X id (fun x xs H Q => r x xs H Q ∨ r' x xs H Q) := by
  intro pins s σ H x xs v us Q I rx rs q
  rcases q with q | q
  · exact h pins s σ H x xs v us Q I rx rs q
  · exact h' pins s σ H x xs v us Q I rx rs q
/-- a[b] -/
theorem pe_ix {r : R2} (hr : IxR X r) (ha : PE X a ta) (hb : PE X b tb) (hs : PlainIx b) : PE X (.Subscript a b pos) (tOp r ta tb) := by
  intro pins s σ H Q I h
  exact Subscript_ (binT ha hb I h fun v u s2 x y H2 I2 rx ry q => hr a b pins s2 σ H2 x y v u Q I2 rx ry q (hs _ _))

def rIxL (K : PySem.W.Frag) : R2 := fun x y H Q => ∃ p xs i v, x = .ref p ∧ y = .int i ∧ SqL K H p xs ∧ atI xs i = some v ∧ Q v H
def rIxT (K : PySem.W.Frag) : R2 := fun x y H Q => ∃ p xs i v, x = .ref p ∧ y = .int i ∧ SqT K H p xs ∧ atI xs i = some v ∧ Q v H
def rIxS : R2 := fun x y H Q => ∃ z i c, x = .str z ∧ y = .int i ∧ z.length ≤ sizeLine ∧ atI z.cps.toList i = some c ∧ Q (.str ⟨#[c]⟩) H
theorem ix_list : IxR X (rIxL X.K) := by
  intro value slice pins s σ H x y v u Q I rx ry h hs
  obtain ⟨p, xs, i, z, rfl, rfl, hq, he, q⟩ := h
  cases rx
  obtain ⟨t, rfl⟩ := ry
  obtain ⟨its, r, pl, hz⟩ := I.list hq
  obtain ⟨j, h1, h2, h3, h4, h5⟩ := atI_get he
  obtain ⟨w, ew, rw'⟩ := r.get h2
  have hl := r.length
  have hn := line63
  have fin : EP X pins σ Q w s := ⟨z, H, I, rw', q⟩
  by_cases h0 : 0 ≤ i
  · have hj : i.toNat = j := by
      rw [seqIndex_of h0 h5] at h1
      exact Option.some.inj h1
    exact item_listR pl.isList h0 (by omega) (by rw [hj]; simpa using ew) fin hs
  · have hj : (i + (its.toArray.size : Int)).toNat = j := by
      rw [seqIndex_neg (by omega) h4] at h1
      rw [List.size_toArray, ← hl]
      exact Option.some.inj h1
    exact subscriptTail_builtinR (x := w) pl.isList.typeIs slot_list_getitem.lookup
      (wpAny_getItem_list_neg (Q := fun r s' => r = w ∧ EP X pins σ Q r s') pl.isList (by omega) (by rw [List.size_toArray] <;> omega) (by omega) (by rw [hj]; simpa using ew) ⟨rfl, fin⟩) hs
theorem ix_tup : IxR X (rIxT X.K) := by
  intro value slice pins s σ H x y v u Q I rx ry h hs
  obtain ⟨p, xs, i, z, rfl, rfl, hq, he, q⟩ := h
  cases rx
  obtain ⟨t, rfl⟩ := ry
  obtain ⟨its, r, pl, hz⟩ := I.tuple hq
  obtain ⟨j, h1, h2, h3, h4, h5⟩ := atI_get he
  obtain ⟨w, ew, rw'⟩ := r.get h2
  have hl := r.length
  have hn := line63
  have fin : EP X pins σ Q w s := ⟨z, H, I, rw', q⟩
  exact subscriptTail_builtinR (x := w) pl.typeIs slot_tuple_getitem.lookup
    (getItem_tuple (j := j) (Q := fun r s' => r = w ∧ EP X pins σ Q r s') pl (by omega) (by omega) (by rw [List.size_toArray, ← hl]; exact h1) (by simpa using ew) ⟨rfl, fin⟩) hs
theorem ix_str : IxR X rIxS := by
  intro value slice pins s σ H x y v u Q I rx ry h hs
  obtain ⟨z, i, c, rfl, rfl, hz, he, q⟩ := h
  obtain ⟨t, rfl⟩ := rx
  obtain ⟨t', rfl⟩ := ry
  obtain ⟨j, h1, h2, h3, h4, h5⟩ := atI_get he
  have hl : z.cps.toList.length = z.length := by simp [Str.length]
  rw [hl] at h1 h4 h5
  have hn := line63
  exact tail_any (typeIs_str s z t) slot_str_getitem.lookup (getItem_str (c := c) (by
    have e1 : decide (i < -(2 ^ 63 : Int)) = false := decide_eq_false (by omega)
    have e2 : decide (i ≥ 2 ^ 63) = false := decide_eq_false (by omega)
    rw [e1, e2, Bool.or_false]) (by rw [h1]; simpa using h2) ⟨.str ⟨#[c]⟩, H, I.tok _, ⟨_, rfl⟩, q⟩) hs
/-- list, tuple or str -/
def rIx (K : PySem.W.Frag) : R2 := fun x y H Q => rIxL K x y H Q ∨ rIxT K x y H Q ∨ rIxS x y H Q
theorem ix_seq : IxR X (rIx X.K) := ix_list.or (ix_tup.or ix_str)

/-! ### xs[i] = v, any sign -/
/-- the list's object behind a store -/
theorem mapSeq_set (its : List Value) (n j : Nat) (u : Value) : Obj.mapSeq (·.setIfInBounds j u) { cls := .type "list", data := .seq its.toArray n } = { cls := .type "list", data := .seq (its.set j u).toArray n } := by
  simp [Obj.mapSeq]
theorem Inv.lst {pins : List (Addr × Obj)} {σ : St} {H : Hp} {s : Shared} {p : Addr} {xs : List V} (I : Inv X pins σ H s) (h : H p = some (.lst xs)) :
    ∃ (its : List Value) (n : Nat), Vals xs its ∧ s.heap.get? p = some { cls := .type "list", data := .seq its.toArray n } ∧ xs.length ≤ sizeLine := by
  obtain ⟨z, its, n, r, e⟩ := I.hok p _ h
  exact ⟨its, n, r, e, z⟩
/-- the list at p is written by an update of its object -/
theorem Inv.lstUpd {pins : List (Addr × Obj)} {σ : St} {H : Hp} {s : Shared} {p : Addr} {xs ys : List V} {its its' : List Value} {n n' : Nat} {f : Obj → Obj} (I : Inv X pins σ H s) (h : H p = some (.lst xs))
    (ho : s.heap.get? p = some { cls := .type "list", data := .seq its.toArray n }) (hf : f { cls := .type "list", data := .seq its.toArray n } = { cls := .type "list", data := .seq its'.toArray n' }) (r : Vals ys its') (hz : ys.length ≤ sizeLine) (t : Nat) :
    Inv X pins σ (upd H p (.lst ys)) { s with heap := s.heap.update p f, toks := t } := by
  have e : (s.heap.update p f).get? p = some { cls := .type "list", data := .seq its'.toArray n' } := by
    rw [Heap.get?_update_self f ho (by rw [hf] <;> rfl), hf]
  refine I.write (x := p) (e := p) (by rw [h]; trivial) (.inl rfl) (fun b u hb q => (Heap.get?_update_other _ _ (Ne.symm hb)).trans q) ⟨_, e⟩ ?_
  exact ⟨hz, its', n', r, e⟩
def rSetL : V → V → V → Hp → (Hp → Prop) → Prop := fun o i v H Q => ∃ p xs k j, o = .ref p ∧ i = .int k ∧ H p = some (.lst xs) ∧ ixN xs.length k = some j ∧ Q (upd H p (.lst (xs.set j v)))
theorem set_list : PSet X rSetL := by
  intro pins s σ H o i v ov iv u Q I ro ri rv h
  obtain ⟨p, xs, k, j, rfl, rfl, hp, hj, q⟩ := h
  cases ro
  obtain ⟨t, rfl⟩ := ri
  obtain ⟨its, n, r, ho, hz⟩ := I.lst hp
  obtain ⟨h1, h2, h3, h4⟩ := ixN_seq hj
  have hl := r.length
  have hn := line63
  have I' : Inv X pins σ (upd H p (.lst (xs.set j v))) { s with heap := s.heap.update p (Obj.mapSeq (·.setIfInBounds j u)) } :=
    I.lstUpd hp ho (mapSeq_set its n j u) (r.set rv j) (by rw [List.length_set]; exact hz) s.toks
  by_cases h0 : 0 ≤ k
  · have hk : k.toNat = j := by
      rw [seqIndex_of h0 h4] at h1
      exact Option.some.inj h1
    exact PySem.W.ki_setAt ho h0 (by omega) (by rw [List.size_toArray, ← hl]; exact h4) (by rw [hk]; exact ⟨_, I', q⟩)
  · have hk : (k + (its.toArray.size : Int)).toNat = j := by
      rw [seqIndex_neg (by omega) h3] at h1
      rw [List.size_toArray, ← hl]
      exact Option.some.inj h1
    exact PySem.W.ki_setBack ho (by omega) (by rw [List.size_toArray, ← hl]; exact h3) (by omega) (by rw [hk]; exact ⟨_, I', q⟩)

/-! ### slices -/
theorem slice_bounds (lo hi : Option Int) (n : Nat) : (sliceBounds lo hi none n).1 = ((HT.sIx n 0 lo : Nat) : Int) ∧ (sliceBounds lo hi none n).2.1 = ((HT.sIx n n hi : Nat) : Int) ∧ (sliceBounds lo hi none n).2.2 = 1 := by
  refine ⟨?_, ?_, rfl⟩
  · cases lo with
    | none => simp [sliceBounds, HT.sIx]
    | some i =>
      simp only [sliceBounds, HT.sIx, Option.getD_none, show (1 : Int) > 0 by decide, if_true]
      by_cases h : i < 0
      · simp only [h, if_true] <;> omega
      · simp only [h, if_false] <;> omega
  · cases hi with
    | none => simp [sliceBounds, HT.sIx]
    | some i =>
      simp only [sliceBounds, HT.sIx, Option.getD_none, show (1 : Int) > 0 by decide, if_true]
      by_cases h : i < 0
      · simp only [h, if_true] <;> omega
      · simp only [h, if_false] <;> omega
theorem slicePick_cut (its : List Value) (lo hi : Option Int) : slicePick its.toArray lo hi none = ((its.drop (HT.sIx its.length 0 lo)).take (HT.sIx its.length its.length hi - HT.sIx its.length 0 lo)).toArray := by
  obtain ⟨h1, h2, h3⟩ := slice_bounds lo hi its.toArray.size
  unfold slicePick
  rw [h1, h2, h3]
  simp only [sliceRange_one, pick_run, List.size_toArray] <;> rfl
/-- xs[lo:hi] of a list: a new list -/
def rSlL (K : PySem.W.Frag) : V → Option Int → Option Int → Hp → VK → Prop := fun x lo hi H Q => ∃ a xs, x = .ref a ∧ SqL K H a xs ∧ ∀ p, H p = none → Q (.ref p) (upd H p (.lst (cutV xs lo hi)))
theorem sl_list : SlR X (rSlL X.K) := by
  intro pins s σ H x v vl vu lo hi sl Q I rx hs pl pu h
  obtain ⟨a, xs, rfl, hx, q⟩ := h
  cases rx
  obtain ⟨its, r, ht, hz⟩ := I.list hx
  have hlen := r.length
  refine ⟨"list", _, slot_list_getitem.lookup, ht.isList.typeIs, ?_⟩
  refine wpAny_getItem_list_slice ht.isList hs pl pu .none (by simp) ?_ (by rw [List.size_toArray] <;> omega)
  rw [slicePick_cut, ← hlen]
  refine ⟨.ref s.heap.objs.size, _, I.laid (t' := s.toks) (o := .lst (cutV xs lo hi)) (fun b ob q => Heap.get?_push_of_some _ q) (Nat.le_refl _) ?_, rfl, q _ (I.hok.fresh (Nat.le_refl _))⟩
  exact ⟨Nat.le_trans (cutV_length xs lo hi) hz, _, 0, (r.drop (HT.sIx xs.length 0 lo)).take (HT.sIx xs.length xs.length hi - HT.sIx xs.length 0 lo), Heap.get?_push_size _ rfl⟩

/-! ### in, not in: flat items -/
def flatV : V → Bool
  | .non => true
  | .bl _ => true
  | .int _ => true
  | .str _ => true
  | _ => false
/-- == of flat values -/
def eqV : V → V → Bool
  | .non, .non => true
  | .bl a, .bl b => a == b
  | .bl a, .int b => (if a then 1 else 0) == b
  | .int a, .bl b => a == (if b then 1 else 0)
  | .int a, .int b => a == b
  | .str a, .str b => a == b
  | _, _ => false
theorem eqAt_V {A : Around} {s : Shared} {y x : V} {u v : Value} (ry : RelV y u) (rx : RelV x v) (fy : flatV y = true) (fx : flatV x = true) : SeqAt.EqAt A s u v (eqV y x) := by
  cases y with
  | non =>
    cases ry
    cases x with
    | non => cases rx; exact SeqAt.EqAt.same _
    | bl b => cases rx; exact SeqAt.EqAt.none_bool b
    | int b => obtain ⟨t, rfl⟩ := rx; exact SeqAt.EqAt.none_int b t
    | str b => obtain ⟨t, rfl⟩ := rx; exact SeqAt.EqAt.none_str b t
    | _ => exact absurd (show false = true from fx) Bool.false_ne_true
  | bl a =>
    cases ry
    cases x with
    | non => cases rx; exact SeqAt.EqAt.bool_none a
    | bl b => cases rx; exact SeqAt.EqAt.bool_bool a b
    | int b => obtain ⟨t, rfl⟩ := rx; exact SeqAt.EqAt.bool_int a b t
    | str b => obtain ⟨t, rfl⟩ := rx; exact SeqAt.EqAt.bool_str a b t
    | _ => exact absurd (show false = true from fx) Bool.false_ne_true
  | int a =>
    obtain ⟨t', rfl⟩ := ry
    cases x with
    | non => cases rx; exact SeqAt.EqAt.int_none a t'
    | bl b => cases rx; exact SeqAt.EqAt.int_bool a t' b
    | int b => obtain ⟨t, rfl⟩ := rx; exact SeqAt.EqAt.int_int a t' b t
    | str b => obtain ⟨t, rfl⟩ := rx; exact SeqAt.EqAt.int_str a t' b t
    | _ => exact absurd (show false = true from fx) Bool.false_ne_true
  | str a =>
    obtain ⟨t', rfl⟩ := ry
    cases x with
    | non => cases rx; exact SeqAt.EqAt.str_none a t'
    | bl b => cases rx; exact SeqAt.EqAt.str_bool a t' b
    | int b => obtain ⟨t, rfl⟩ := rx; exact SeqAt.EqAt.str_int a t' b t
    | str b => obtain ⟨t, rfl⟩ := rx; exact SeqAt.EqAt.str_str a t' b t
    | _ => exact absurd (show false = true from fx) Bool.false_ne_true
  | _ => exact absurd (show false = true from fy) Bool.false_ne_true
/-- the items' answers, read off the values (a value's own answer does not lean on its token) -/
def eqU (x : V) (u : Value) : Bool := match u with
  | .none => eqV .non x
  | .bool b => eqV (.bl b) x
  | .int i _ => eqV (.int i) x
  | .str z _ => eqV (.str z) x
  | _ => false
theorem eqU_of {x y : V} {u : Value} (r : RelV y u) (f : flatV y = true) : eqU x u = eqV y x := by
  cases y with
  | non => cases r; rfl
  | bl b => cases r; rfl
  | int i => obtain ⟨t, rfl⟩ := r; rfl
  | str z => obtain ⟨t, rfl⟩ := r; rfl
  | _ => exact absurd (show false = true from f) Bool.false_ne_true
theorem any_eqU {x : V} : ∀ {xs : List V} {us : List Value}, Vals xs us → xs.all flatV = true → us.any (eqU x) = xs.any fun y => eqV y x
  | _, _, .nil, _ => rfl
  | y :: xs, u :: us, .cons r t, f => by
    rw [List.all_cons, Bool.and_eq_true] at f
    rw [List.any_cons, List.any_cons, eqU_of r f.1, any_eqU t f.2]
theorem mem_eqAt {A : Around} {s : Shared} {x : V} {v : Value} (rx : RelV x v) (fx : flatV x = true) : ∀ {xs : List V} {us : List Value}, Vals xs us → xs.all flatV = true → ∀ u ∈ us, SeqAt.EqAt A s u v (eqU x u)
  | _, _, .nil, _ => fun u hu => by cases hu
  | y :: xs, u :: us, .cons r t, f => fun u' hu => by
    rw [List.all_cons, Bool.and_eq_true] at f
    rcases List.mem_cons.mp hu with rfl | hu
    · rw [eqU_of r f.1]; exact eqAt_V r rx f.1 fx
    · exact mem_eqAt rx fx t f.2 u' hu
def inV (x : V) (xs : List V) : Bool := xs.any fun y => eqV y x
/-- x in a list or tuple of flat items -/
def rIn (K : PySem.W.Frag) (neg : Bool) : R2 := fun x y H Q => ∃ p xs, y = .ref p ∧ (SqL K H p xs ∨ SqT K H p xs) ∧ flatV x = true ∧ xs.all flatV = true ∧ Q (.bl (if neg then !inV x xs else inV x xs)) H
theorem op_in_seq : OpR X (compareOp .In) (rIn X.K false) := by
  intro pins s σ H x y v u Q I rx ry h
  obtain ⟨p, xs, rfl, hq, fx, fs, q⟩ := h
  cases ry
  rcases hq with hq | hq
  · obtain ⟨its, r, pl, hz⟩ := I.list hq
    refine SeqAt.in_listAt (eqU x) pl.isList (fun w hw => mem_eqAt rx fx r fs w (by simpa using hw)) ⟨.bl _, H, I, rfl, ?_⟩
    rw [show its.toArray.any (eqU x) = its.any (eqU x) by simp, any_eqU r fs]
    exact q
  · obtain ⟨its, r, pl, hz⟩ := I.tuple hq
    refine SeqAt.in_tupleAt (eqU x) pl (fun w hw => mem_eqAt rx fx r fs w (by simpa using hw)) ⟨.bl _, H, I, rfl, ?_⟩
    rw [show its.toArray.any (eqU x) = its.any (eqU x) by simp, any_eqU r fs]
    exact q
theorem op_notIn_seq : OpR X (compareOp .NotIn) (rIn X.K true) := by
  intro pins s σ H x y v u Q I rx ry h
  obtain ⟨p, xs, rfl, hq, fx, fs, q⟩ := h
  cases ry
  rcases hq with hq | hq
  · obtain ⟨its, r, pl, hz⟩ := I.list hq
    refine SeqAt.notIn_listAt (eqU x) pl.isList (fun w hw => mem_eqAt rx fx r fs w (by simpa using hw)) ⟨.bl _, H, I, rfl, ?_⟩
    rw [show its.toArray.any (eqU x) = its.any (eqU x) by simp, any_eqU r fs]
    exact q
  · obtain ⟨its, r, pl, hz⟩ := I.tuple hq
    refine SeqAt.notIn_tupleAt (eqU x) pl (fun w hw => mem_eqAt rx fx r fs w (by simpa using hw)) ⟨.bl _, H, I, rfl, ?_⟩
    rw [show its.toArray.any (eqU x) = its.any (eqU x) by simp, any_eqU r fs]
    exact q
theorem op_notIn_str : OpR X (compareOp .NotIn) (fun x y H Q => ∃ i j, x = .str i ∧ y = .str j ∧ Q (.bl (!(!(Builtin.Str.occurrences j i 0 j.length 1).isEmpty))) H) := by
  intro pins s σ H x y v u Q I rx ry h
  obtain ⟨i, j, rfl, rfl, q⟩ := h
  obtain ⟨t, rfl⟩ := rx
  obtain ⟨t', rfl⟩ := ry
  exact notIn_str ⟨.bl _, H, I, rfl, q⟩

/-! ### len, list(x), tuple(x) of any list or tuple that is read -/
theorem call_len_seq : CallR X (.builtin "len") (fun xs H Q => ∃ p ys, xs = [.ref p] ∧ (SqL X.K H p ys ∨ SqT X.K H p ys) ∧ Q (.int ys.length) H) := by
  intro pins s σ H xs us Q I r h
  obtain ⟨p, ys, rfl, hq, q⟩ := h
  obtain ⟨u, rfl, rx⟩ := vals1 r
  cases rx
  have hn := line63
  rcases hq with hq | hq
  · obtain ⟨its, r', pl, hz⟩ := I.list hq
    have hlen := r'.length
    exact Calls.call_len_list pl.isList (by simp only [List.size_toArray] <;> omega) ⟨.int ys.length, H, I.tok _, ⟨s.toks + 1, by rw [List.size_toArray, hlen]⟩, q⟩
  · obtain ⟨its, r', pl, hz⟩ := I.tuple hq
    have hlen := r'.length
    exact len_tuple pl (by simp only [List.size_toArray] <;> omega) ⟨.int ys.length, H, I.tok _, ⟨s.toks + 1, by rw [List.size_toArray, hlen]⟩, q⟩
theorem call_len_str : CallR X (.builtin "len") (fun xs H Q => ∃ z, xs = [.str z] ∧ z.length ≤ sizeLine ∧ Q (.int z.length) H) := by
  intro pins s σ H xs us Q I r h
  obtain ⟨z, rfl, hz, q⟩ := h
  obtain ⟨u, rfl, t, rfl⟩ := vals1 r
  have hn := line63
  exact len_str (by omega) ⟨.int z.length, H, I.tok _, ⟨_, rfl⟩, q⟩
theorem CallR.or {f : Value} {r r' : List V → Hp → VK → Prop} (h : CallR X f r) (h' : CallR X f r') : CallR X f (fun xs H Q => r xs H Q ∨ r' xs H Q) := by
  intro pins s σ H xs us Q I rs q
  rcases q with q | q
  · exact h pins s σ H xs us Q I rs q
  · exact h' pins s σ H xs us Q I rs q
theorem call_list_of : CallR X (.type "list") (fun xs H Q => ∃ p ys, xs = [.ref p] ∧ (SqL X.K H p ys ∨ SqT X.K H p ys) ∧ ∀ l, H l = none → Q (.ref l) (upd H l (.lst ys))) := by
  intro pins s σ H xs us Q I r h
  obtain ⟨p, ys, rfl, hq, q⟩ := h
  obtain ⟨u, rfl, rx⟩ := vals1 r
  cases rx
  have fin : ∀ (its : List Value), Vals ys its → ys.length ≤ sizeLine → ∀ (h' : Heap) (c' : Nat), (∀ b o', s.heap.get? b = some o' → h'.get? b = some o') →
      h'.get? s.heap.objs.size = some { cls := .type "list", dict := none, data := .seq its.toArray c', slots := #[] } → EP X pins σ Q (.ref s.heap.objs.size) { s with heap := h' } := fun its r' hz h' c' kp e =>
    ⟨.ref s.heap.objs.size, _, I.laid (t' := s.toks) kp (Nat.le_refl _) (show ObjOk X.prog X.w _ h' _ (.lst ys) from ⟨hz, its, c', r', e⟩), rfl, q _ (I.hok.fresh (Nat.le_refl _))⟩
  rcases hq with hq | hq
  · obtain ⟨its, r', pl, hz⟩ := I.list hq
    have hlen := r'.length
    obtain ⟨o, ho, hc, n, hd⟩ := pl.isList
    exact call_list_seq p (.inl rfl) ho hc hd (fun h' c' kp e => fin its r' hz h' c' kp e) (by simp only [List.size_toArray] <;> omega)
  · obtain ⟨its, r', pl, hz⟩ := I.tuple hq
    have hlen := r'.length
    obtain ⟨o, ho, hc, n, hd⟩ := pl
    exact call_list_seq p (.inr rfl) ho hc hd (fun h' c' kp e => fin its r' hz h' c' kp e) (by simp only [List.size_toArray] <;> omega)
theorem call_tuple_of : CallR X (.type "tuple") (fun xs H Q => ∃ p ys, xs = [.ref p] ∧ ((SqL X.K H p ys ∧ ∀ l, H l = none → Q (.ref l) (upd H l (.tup ys))) ∨ (SqT X.K H p ys ∧ Q (.ref p) H))) := by
  intro pins s σ H xs us Q I r h
  obtain ⟨p, ys, rfl, h⟩ := h
  obtain ⟨u, rfl, rx⟩ := vals1 r
  cases rx
  rcases h with ⟨hq, q⟩ | ⟨hq, q⟩
  · obtain ⟨its, r', pl, hz⟩ := I.list hq
    have hlen := r'.length
    refine call_tuple_list pl.isList (fun h' kp => ?_) (by simp only [List.size_toArray] <;> omega)
    have I1 : Inv X pins σ H { s with heap := h' } := I.kept (t' := s.toks) kp
    have I2 : Inv X pins σ (upd H h'.objs.size (.tup ys)) { s with heap := h'.push { cls := .type "tuple", data := .seq its.toArray } } :=
      I1.laid (t' := s.toks) (fun b o e => Heap.get?_push_of_some _ e) (Nat.le_refl _) (show ObjOk X.prog X.w _ _ _ (.tup ys) from ⟨hz, its, r', IsTup.new _ _⟩)
    exact ⟨.ref h'.objs.size, _, I2, rfl, q _ (I1.hok.fresh (Nat.le_refl _))⟩
  · obtain ⟨its, r', pl, hz⟩ := I.tuple hq
    exact call_tuple_same pl ⟨.ref p, H, I, rfl, q⟩

/-! ### the call of a builtin's method: o.m(..) -/
/-- the value is of that builtin type -/
def tyV (K : PySem.W.Frag) (T : String) (x : V) (H : Hp) : Prop := match x with
  | .str _ => T = "str"
  | .int _ => T = "int"
  | .ref p => (T = "list" ∧ ∃ xs, SqL K H p xs) ∨ (T = "tuple" ∧ ∃ o, K.lookup p = some o ∧ o.cls = .type "tuple" ∧ o.dict = none) ∨
      (T = "dict" ∧ ((∃ kvs, H p = some (.dK kvs)) ∨ ∃ kvs, H p = some (.dT kvs))) ∨ (T = "set" ∧ ∃ S n, H p = some (.set S n))
  | _ => False
theorem tyV_is {pins : List (Addr × Obj)} {σ : St} {H : Hp} {s : Shared} {T : String} {x : V} {v : Value} (I : Inv X pins σ H s) (r : RelV x v) (ty : tyV X.K T x H) :
    s.TypeIs v T ∧ ∀ a, v = .ref a → ∃ ob, s.heap.get? a = some ob ∧ ob.dict = none := by
  cases x with
  | str z =>
    obtain ⟨t, rfl⟩ := r
    cases (show T = "str" from ty)
    exact ⟨typeIs_str s z t, fun _ e => nomatch e⟩
  | int i =>
    obtain ⟨t, rfl⟩ := r
    cases (show T = "int" from ty)
    exact ⟨typeIs_int s i t, fun _ e => nomatch e⟩
  | ref p =>
    cases r
    rcases ty with ⟨rfl, xs, hq⟩ | ⟨rfl, o, hk, hc, hd⟩ | ⟨rfl, hk⟩ | ⟨rfl, S, n, hk⟩
    · obtain ⟨its, _, pl, _⟩ := I.list hq
      refine ⟨pl.isList.typeIs, fun a e => ?_⟩
      cases e
      obtain ⟨o, n, e, c, hd, _⟩ := pl
      exact ⟨o, e, hd⟩
    · refine ⟨⟨o, I.kIn p o hk, hc⟩, fun a e => ?_⟩
      cases e
      exact ⟨o, I.kIn _ o hk, hd⟩
    · have z : ∃ o, s.heap.get? p = some o ∧ o.ExactDict := by
        rcases hk with ⟨kvs, hk⟩ | ⟨kvs, hk⟩
        · obtain ⟨_, _, _, _, o, _, _, e, ex, _⟩ := I.hok p _ hk
          exact ⟨o, e, ex⟩
        · obtain ⟨_, _, _, _, o, _, _, e, ex, _⟩ := I.hok p _ hk
          exact ⟨o, e, ex⟩
      obtain ⟨o, e, ex⟩ := z
      refine ⟨⟨o, e, ex.1⟩, fun a e2 => ?_⟩
      cases e2
      exact ⟨o, e, ex.2.1⟩
    · obtain ⟨o, _, _, _, e, ex, _⟩ := I.hok p _ hk
      refine ⟨⟨o, e, ex.1⟩, fun a e2 => ?_⟩
      cases e2
      exact ⟨o, e, ex.2.1⟩
  | _ => exact False.elim ty
def tBM0 (K : PySem.W.Frag) (T : String) (r : V → List V → Hp → VK → Prop) (to : TE) : TE := fun σ H Q => to σ H fun x H1 => tyV K T x H1 ∧ r x [] H1 Q
def tBM (K : PySem.W.Frag) (T : String) (r : V → List V → Hp → VK → Prop) (to : TE) (t : TA) : TE := fun σ H Q => to σ H fun x H1 => tyV K T x H1 ∧ t σ H1 fun xs H2 => r x xs H2 Q
variable {o e : Expr} {es : List Expr} {to : TE} {t : TA} {name : Str} {apos cpos : Pos} {T id : String} {r : V → List V → Hp → VK → Prop}
theorem pe_bm0 (pa : PlainAttrs T) (slot : Slot T name id) (hty : typeOf (.builtin id) = pure (.type "method_descriptor")) (hm : MtR X id r) (ho : PE X o to)
    (hbase : attributeBase o name X.env (eval o X.env) = eval o X.env := by rfl) (hline : (apos.endLine == cpos.line) = true := by rfl) : PE X (.Call (.Attribute o name apos) [] [] cpos) (tBM0 X.K T r to) := by
  intro pins s σ H Q I h
  refine wpAny_Call_method0_late hbase hline (thn (ho pins s σ H _ I h) fun v s1 ⟨x, H1, I1, r1, ty, q1⟩ => ?_)
  obtain ⟨h1, h2⟩ := tyV_is I1 r1 ty
  exact ⟨T, id, pa, slot, hty, h1, h2, Calls.callWith_builtin rfl (PySem.evalArgs_none (hm pins s1 σ H1 x [] v [] Q I1 r1 .nil q1))⟩
theorem pe_bm (pa : PlainAttrs T) (slot : Slot T name id) (hty : typeOf (.builtin id) = pure (.type "method_descriptor")) (hm : MtR X id r) (ho : PE X o to) (ha : PA X (e :: es) t)
    (hbase : attributeBase o name X.env (eval o X.env) = eval o X.env := by rfl)
    (hfew : ((backTo cpos (starEach (e :: es) X.env)).all (fun x => !x.1) && (backToKw cpos (keywordEach [] X.env)).all (fun x => x.1.isSome)
      && decide ((e :: es).length + ([] : List Keyword).length + (if ([] : List Keyword).isEmpty then 0 else 1) < 30)) = true := by rfl)
    (hline : (apos.endLine == cpos.line) = true := by rfl) (hs : starEach (e :: es) X.env = (false, eval e X.env) :: starEach es X.env := by rfl) (hplain : (backTo cpos (starEach es X.env)).any (·.1) = false := by rfl) :
    PE X (.Call (.Attribute o name apos) (e :: es) [] cpos) (tBM X.K T r to t) := by
  intro pins s σ H Q I h
  refine wpAny_Call_method_late hbase hfew hline rfl (thn (ho pins s σ H _ I h) fun v s1 ⟨x, H1, I1, r1, ty, q1⟩ => ?_)
  obtain ⟨h1, h2⟩ := tyV_is I1 r1 ty
  refine ⟨T, id, pa, slot, hty, h1, h2, ?_⟩
  have hA := ha cpos pins s1 σ H1 _ I1 q1
  rw [hs] at hA ⊢
  refine Calls.callWith_builtin (by show (false || (backTo cpos (starEach es X.env)).any (·.1)) = false; rw [hplain] <;> rfl) (Calls.evalArgs_plain ?_)
  exact thn hA fun us s2 ⟨vs, H2, I2, r2, q2⟩ => hm pins s2 σ H2 x vs v us Q I2 r1 r2 q2
/- xs.append(e), list.index on a module's tuple .. are MtR facts of 06m -/
end
end L2

namespace L2
open PySem PySem.Spec PyProof.Rows

def MtM (X : Cx) (id : String) (r : V → List V → Hp → VK → Prop) : Prop :=
  ∀ (pins : List (Addr × Obj)) (s : Shared) (σ : St) (H : Hp) (x : V) (xs : List V) (v : Value) (us : List Value) (Q : VK), Inv X pins σ H s → RelV x v → Vals xs us → r x xs H Q →
    wpAny (model X.prog X.w) X.A (call (.builtin id) (v :: us)) (EP X pins σ Q) X.xe s

/-! ### lists of values -/
theorem Vals.one : ∀ {x : V} {us : List Value}, Vals [x] us → ∃ u, us = [u] ∧ RelV x u
  | _, _, .cons r .nil => ⟨_, rfl, r⟩
theorem Vals.two : ∀ {x y : V} {us : List Value}, Vals [x, y] us → ∃ u v, us = [u, v] ∧ RelV x u ∧ RelV y v
  | _, _, _, .cons r (.cons q .nil) => ⟨_, _, rfl, r, q⟩
theorem Vals.zero : ∀ {us : List Value}, Vals [] us → us = []
  | _, .nil => rfl
theorem Vals.dropLast {xs : List V} {us : List Value} (h : Vals xs us) : Vals xs.dropLast us.dropLast := by
  induction h with
  | nil => exact .nil
  | cons r t ih =>
    cases t with
    | nil => exact .nil
    | cons q t' => exact .cons r ih
theorem Vals.eraseIdx : ∀ {xs : List V} {us : List Value} (i : Nat), Vals xs us → Vals (xs.eraseIdx i) (us.eraseIdx i)
  | _, _, _, .nil => .nil
  | _, _, 0, .cons _ t => t
  | _, _, i + 1, .cons r t => .cons r (Vals.eraseIdx i t)
theorem Vals.reverse {xs : List V} {us : List Value} (h : Vals xs us) : Vals xs.reverse us.reverse := by
  induction h with
  | nil => exact .nil
  | cons r t ih => rw [List.reverse_cons, List.reverse_cons]; exact Vals.append ih (.cons r .nil)
theorem Vals.rep {xs : List V} {us : List Value} (h : Vals xs us) : ∀ k : Nat, Vals (List.replicate k xs).flatten (List.replicate k us).flatten
  | 0 => .nil
  | k + 1 => by
    rw [List.replicate_succ, List.replicate_succ, List.flatten_cons, List.flatten_cons]
    exact Vals.append h (Vals.rep h k)
theorem erase_last {α : Type} (l : List α) : l.eraseIdx (l.length - 1) = l.dropLast := by
  induction l with
  | nil => rfl
  | cons a r ih =>
    cases r with
    | nil => rfl
    | cons b r =>
      have e : (a :: b :: r).length - 1 = ((b :: r).length - 1) + 1 := by
        have h1 : (a :: b :: r).length = r.length + 2 := rfl
        have h2 : (b :: r).length = r.length + 1 := rfl
        omega
      rw [e, List.eraseIdx_cons_succ, ih]
      all_goals rfl
theorem len_erase {α : Type} : ∀ (l : List α) (i : Nat), (l.eraseIdx i).length ≤ l.length
  | [], _ => Nat.le_refl _
  | _ :: _, 0 => Nat.le_succ _
  | _ :: r, i + 1 => Nat.succ_le_succ (len_erase r i)
theorem foldl_rep (its : List Value) : ∀ (k : Nat) (acc : List Value),
    List.foldl (fun x1 x2 => x1 ++ x2) acc.toArray (List.replicate k its.toArray) = (acc ++ (List.replicate k its).flatten).toArray
  | 0, acc => by simp
  | k + 1, acc => by
    have e : acc.toArray ++ its.toArray = (acc ++ its).toArray := by simp
    have e2 : (acc ++ its) ++ (List.replicate k its).flatten = acc ++ (List.replicate (k + 1) its).flatten := by
      rw [List.replicate_succ, List.flatten_cons, List.append_assoc]
    rw [← e2, ← foldl_rep its k (acc ++ its), ← e, List.replicate_succ, List.foldl_cons]

section
variable {X : Cx} {pins : List (Addr × Obj)} {σ : St} {H : Hp} {s : Shared} {l b : Addr} {xs ys zs : List V}

/-! ### the two steps: a tracked list is rewritten, a new list is laid -/
theorem Inv.lset {its its' : List Value} {n : Nat} {f : Array Value → Array Value} {t' : Nat} (I : Inv X pins σ H s) (hH : H l = some (.lst xs))
    (e : s.heap.get? l = some { cls := .type "list", data := .seq its.toArray n }) (hf : f its.toArray = its'.toArray) (hv : Vals ys its') (hz : ys.length ≤ sizeLine) :
    Inv X pins σ (upd H l (.lst ys)) { s with heap := s.heap.update l (Obj.mapSeq f), toks := t' } := by
  have q := PySem.IsL.update e f
  rw [hf] at q
  refine I.write (x := l) (e := l) (by rw [hH]; exact trivial) (.inl rfl) (fun b' u hb hu => (Heap.get?_update_other s.heap (Obj.mapSeq f) (Ne.symm hb)).trans hu) ⟨_, q⟩ ?_
  exact ⟨hz, its', _, hv, q⟩
theorem Inv.lnew {its : List Value} {t' : Nat} (I : Inv X pins σ H s) (hv : Vals ys its) (hz : ys.length ≤ sizeLine) :
    Inv X pins σ (upd H s.heap.objs.size (.lst ys)) { s with heap := s.heap.push { cls := .type "list", data := .seq its.toArray }, toks := t' } :=
  I.laid (fun _ _ q => Heap.get?_push_of_some _ q) (Nat.le_refl _) ⟨hz, its, 0, hv, Heap.get?_push_size _ rfl⟩
theorem Inv.fresh (I : Inv X pins σ H s) : H s.heap.objs.size = none := I.hok.fresh (Nat.le_refl _)
theorem Inv.lstM (I : Inv X pins σ H s) (hH : H l = some (.lst xs)) : xs.length ≤ sizeLine ∧ ∃ (its : List Value) (n : Nat), Vals xs its ∧ xs.length = its.length ∧ s.heap.get? l = some { cls := .type "list", data := .seq its.toArray n } := by
  obtain ⟨z, its, n, r, e⟩ := I.hok l _ hH
  exact ⟨z, its, n, r, r.length, e⟩

theorem notLongL {n : Nat} (h : n ≤ sizeLine) : Builtin.List.listTooLong n = false := by
  unfold Builtin.List.listTooLong
  exact decide_eq_false (by omega)
end

section
variable {X : Cx}

/-! ### methods -/
def rAppend : V → List V → Hp → VK → Prop := fun x vs H Q => ∃ l xs y, x = .ref l ∧ vs = [y] ∧ H l = some (.lst xs) ∧ xs.length < sizeLine ∧ Q .non (upd H l (.lst (xs ++ [y])))
theorem mt_append : MtM X "list.append" rAppend := by
  intro pins s σ H x vs v us Q I rx rv h
  obtain ⟨l, xs, y, rfl, rfl, hH, hz, q⟩ := h
  cases rx
  obtain ⟨u, rfl, ru⟩ := rv.one
  obtain ⟨z, its, n, r, hl, e⟩ := I.lstM hH
  refine call_meets F.slot_list_append ⟨_, e, rfl⟩ F.entry_list_append (F.args_list_append_2 _ _) (PySem.list_append l its.toArray n u (by rw [List.size_toArray]; omega)) ⟨e, ?_⟩
  refine ⟨.non, _, I.lset (its' := its ++ [u]) hH e (by simp) (r.append (.cons ru .nil)) ?_, rfl, q⟩
  rw [List.length_append, List.length_singleton]
  omega

def rExtend : V → List V → Hp → VK → Prop := fun x vs H Q => ∃ l b xs zs, x = .ref l ∧ vs = [.ref b] ∧ H l = some (.lst xs) ∧ H b = some (.lst zs) ∧ xs.length + zs.length ≤ sizeLine ∧ Q .non (upd H l (.lst (xs ++ zs)))
theorem mt_extend : MtM X "list.extend" rExtend := by
  intro pins s σ H x vs v us Q I rx rv h
  obtain ⟨l, b, xs, zs, rfl, rfl, hH, hB, hz, q⟩ := h
  cases rx
  obtain ⟨u, rfl, ru⟩ := rv.one
  cases ru
  obtain ⟨z, its, n, r, hl, e⟩ := I.lstM hH
  obtain ⟨z2, its2, n2, r2, hl2, e2⟩ := I.lstM hB
  have hsz : its.toArray.size + its2.toArray.size ≤ sizeLine := by rw [List.size_toArray, List.size_toArray]; omega
  have hlong : ¬ (!its.toArray.isEmpty && Builtin.List.listTooLong (its.toArray.size + its2.toArray.size)) = true := by
    rw [notLongL hsz, Bool.and_false]
    exact Bool.false_ne_true
  refine call_meets F.slot_list_extend ⟨_, e, rfl⟩ F.entry_list_extend (F.args_list_extend_2 _ _)
    (AutoSeq1.list_extend_list_list_0 l its.toArray n b its2.toArray n2 hlong (by rw [List.size_toArray]; omega) (by omega)) ⟨e, e2, ?_⟩
  refine ⟨.non, _, I.lset (its' := its ++ its2) hH e (by simp) (r.append r2) ?_, rfl, q⟩
  rw [List.length_append]
  omega

def rPop : V → List V → Hp → VK → Prop := fun x vs H Q => ∃ l xs y, x = .ref l ∧ vs = [] ∧ H l = some (.lst xs) ∧ xs[xs.length - 1]? = some y ∧ Q y (upd H l (.lst xs.dropLast))
theorem mt_pop : MtM X "list.pop" rPop := by
  intro pins s σ H x vs v us Q I rx rv h
  obtain ⟨l, xs, y, rfl, rfl, hH, hy, q⟩ := h
  cases rx
  have hus := rv.zero
  subst hus
  obtain ⟨z, its, n, r, hl, e⟩ := I.lstM hH
  obtain ⟨u, hu, ru⟩ := r.get hy
  have hy' : its.toArray[its.toArray.size - 1]? = some u := by
    show its.toArray[its.length - 1]? = some u
    rw [← Array.getElem?_toList, ← hl]
    exact hu
  refine call_meets F.slot_list_pop ⟨_, e, rfl⟩ F.entry_list_pop (F.args_list_pop_1 _) (MeetsSeq.list_pop_last l its.toArray n u hy' (by rw [List.size_toArray]; omega)) ⟨e, ?_⟩
  refine ⟨y, _, I.lset (its' := its.dropLast) hH e ?_ r.dropLast ?_, ru, q⟩
  · show its.toArray.eraseIdxIfInBounds (its.toArray.size - 1) = its.dropLast.toArray
    rw [List.size_toArray, List.eraseIdxIfInBounds_toArray, erase_last]
  · rw [List.length_dropLast]
    omega

def rPopAt : V → List V → Hp → VK → Prop := fun x vs H Q => ∃ l xs i k y, x = .ref l ∧ vs = [.int i] ∧ H l = some (.lst xs) ∧ -(2 ^ 63) ≤ i ∧ i < 2 ^ 63 ∧ seqIndex? i xs.length = some k ∧ xs[k]? = some y ∧ Q y (upd H l (.lst (xs.eraseIdx k)))
theorem mt_popAt : MtM X "list.pop" rPopAt := by
  intro pins s σ H x vs v us Q I rx rv h
  obtain ⟨l, xs, i, k, y, rfl, rfl, hH, h1, h2, hk, hy, q⟩ := h
  cases rx
  obtain ⟨u, rfl, ru⟩ := rv.one
  obtain ⟨t, rfl⟩ := ru
  obtain ⟨z, its, n, r, hl, e⟩ := I.lstM hH
  obtain ⟨w, hw, rw'⟩ := r.get hy
  refine call_meets F.slot_list_pop ⟨_, e, rfl⟩ F.entry_list_pop (F.args_list_pop_2 _ _)
    (MeetsSeq.list_pop_at l its.toArray n i t k w (fitsIndex_both h1 h2) (by rw [List.size_toArray, ← hl]; exact hk) (by rw [← Array.getElem?_toList]; exact hw) (by rw [List.size_toArray]; omega)) ⟨e, ?_⟩
  refine ⟨y, _, I.lset (its' := its.eraseIdx k) hH e ?_ (r.eraseIdx k) ?_, rw', q⟩
  · show its.toArray.eraseIdxIfInBounds k = (its.eraseIdx k).toArray
    rw [List.eraseIdxIfInBounds_toArray]
  · have := len_erase xs k
    omega

def rReverse : V → List V → Hp → VK → Prop := fun x vs H Q => ∃ l xs, x = .ref l ∧ vs = [] ∧ H l = some (.lst xs) ∧ Q .non (upd H l (.lst xs.reverse))
theorem mt_reverse : MtM X "list.reverse" rReverse := by
  intro pins s σ H x vs v us Q I rx rv h
  obtain ⟨l, xs, rfl, rfl, hH, q⟩ := h
  cases rx
  have hus := rv.zero
  subst hus
  obtain ⟨z, its, n, r, hl, e⟩ := I.lstM hH
  refine call_meets F.slot_list_reverse ⟨_, e, rfl⟩ F.entry_list_reverse (F.args_list_reverse_1 _) (AutoSeq1.list_reverse_list_0 l its.toArray n (by rw [List.size_toArray]; omega)) ⟨e, ?_⟩
  refine ⟨.non, _, I.lset (its' := its.reverse) hH e (by simp) r.reverse ?_, rfl, q⟩
  rw [List.length_reverse]
  omega

def rClear : V → List V → Hp → VK → Prop := fun x vs H Q => ∃ l xs, x = .ref l ∧ vs = [] ∧ H l = some (.lst xs) ∧ Q .non (upd H l (.lst []))
theorem mt_clear : MtM X "list.clear" rClear := by
  intro pins s σ H x vs v us Q I rx rv h
  obtain ⟨l, xs, rfl, rfl, hH, q⟩ := h
  cases rx
  have hus := rv.zero
  subst hus
  obtain ⟨z, its, n, r, hl, e⟩ := I.lstM hH
  refine call_meets F.slot_list_clear ⟨_, e, rfl⟩ F.entry_list_clear (F.args_list_clear_1 _) (AutoSeq1.list_clear_list_0 l its.toArray n (by rw [List.size_toArray]; omega)) ⟨e, ?_⟩
  exact ⟨.non, _, I.lset (its' := []) (ys := []) hH e rfl .nil (Nat.zero_le _), rfl, q⟩

/-! ### list + list, list += list, list * int -/
def rCat : R2 := fun x y H Q => ∃ l b xs zs, x = .ref l ∧ y = .ref b ∧ H l = some (.lst xs) ∧ H b = some (.lst zs) ∧ xs.length + zs.length ≤ sizeLine ∧ ∀ p, H p = none → Q (.ref p) (upd H p (.lst (xs ++ zs)))
theorem op_cat : OpR X (binaryOp .Add) rCat := by
  intro pins s σ H x y v u Q I rx ry h
  obtain ⟨l, b, xs, zs, rfl, rfl, hH, hB, hz, q⟩ := h
  cases rx
  cases ry
  obtain ⟨z, its, n, r, hl, e⟩ := I.lstM hH
  obtain ⟨z2, its2, n2, r2, hl2, e2⟩ := I.lstM hB
  refine PySem.P.add_list e e2 ?_ (by rw [List.size_toArray, List.size_toArray]; omega)
  have ea : its.toArray ++ its2.toArray = (its ++ its2).toArray := by simp
  rw [ea]
  exact ⟨.ref _, _, I.lnew (t' := s.toks) (r.append r2) (by rw [List.length_append]; omega), rfl, q _ I.fresh⟩
/-- a list times an int (a negative one is nothing) -/
def rRep : R2 := fun x y H Q => ∃ l k xs, x = .ref l ∧ y = .int k ∧ H l = some (.lst xs) ∧ -(2 ^ 63) ≤ k ∧ k < 2 ^ 63 ∧ xs.length * k.toNat ≤ sizeLine ∧
  ∀ p, H p = none → Q (.ref p) (upd H p (.lst (List.replicate k.toNat xs).flatten))
theorem len_rep {α : Type} (xs : List α) (k : Nat) : (List.replicate k xs).flatten.length = k * xs.length := by
  induction k with
  | zero => simp
  | succ k ih => rw [List.replicate_succ, List.flatten_cons, List.length_append, ih, Nat.succ_mul, Nat.add_comm]
theorem op_rep : OpR X (binaryOp .Mult) rRep := by
  intro pins s σ H x y v u Q I rx ry h
  obtain ⟨l, k, xs, rfl, rfl, hH, h1, h2, hz, q⟩ := h
  cases rx
  obtain ⟨t, rfl⟩ := ry
  obtain ⟨z, its, n, r, hl, e⟩ := I.lstM hH
  have hlen : its.toArray.size * k.toNat ≤ sizeLine := by rw [List.size_toArray, ← hl]; exact hz
  have hcap : ¬ its.toArray.size * k.toNat > (2 ^ 63 - 1) / 8 := by
    have : (sizeLine : Nat) ≤ (2 ^ 63 - 1) / 8 := by decide
    omega
  have hfit : ¬ (!Builtin.List.listFitsIndex k) = true := by
    rw [fitsIndex_both h1 h2]
    exact Bool.false_ne_true
  have hlong : ¬ Builtin.List.listTooLong (its.toArray.size * k.toNat) = true := by
    rw [notLongL hlen]
    exact Bool.false_ne_true
  have hnew : List.foldl (fun x1 x2 => x1 ++ x2) #[] (List.replicate (if its.toArray.isEmpty = true then 0 else k.toNat) its.toArray) = (List.replicate k.toNat its).flatten.toArray := by
    have f0 : ∀ m : Nat, List.foldl (fun x1 x2 => x1 ++ x2) #[] (List.replicate m its.toArray) = (List.replicate m its).flatten.toArray := fun m => by
      have := foldl_rep its m []
      rw [List.nil_append] at this
      exact this
    rw [f0]
    cases its with
    | nil => simp
    | cons a r' => rw [if_neg (by simp)]
  refine wpAny_binaryOp_repeat_ref (T := "list") (U := "int") (by decide) ⟨_, e, rfl⟩ (fun s' => typeIs_int s' k t) noFill_list_mul F.fills_int_mul F.slot_int_rmul repeat_list F.slot_int_index.lookup
    (call_meets F.slot_int_rmul (typeIs_int s k t) F.entry_int_rmul (F.args_int_rmul_2 _ _) (int___rmul___int_list k t l its.toArray n)
      ⟨e, rfl, ⟨_, e, rfl⟩, call_meets F.slot_list_mul ⟨_, e, rfl⟩ F.entry_list_mul (F.args_list_mul_2 _ _) (AutoListH.list___mul___list_int_3 l its.toArray n k t hfit hcap hlong) ⟨e, ?_⟩⟩)
  rw [hnew]
  exact ⟨.ref _, _, I.lnew (t' := s.toks) (r.rep k.toNat) (by rw [len_rep, Nat.mul_comm]; exact hz), rfl, q _ I.fresh⟩

/-! ### del xs[i] -/
theorem del_list {pins : List (Addr × Obj)} {s : Shared} {σ : St} {H : Hp} {l : Addr} {xs : List V} {i : Int} {t : Tok} {k : Nat} {Q : Unit → Shared → Prop} (I : Inv X pins σ H s) (hH : H l = some (.lst xs))
    (h1 : -(2 ^ 63) ≤ i) (h2 : i < 2 ^ 63) (hk : seqIndex? i xs.length = some k) (h : ∀ s', Inv X pins σ (upd H l (.lst (xs.eraseIdx k))) s' → Q () s') :
    wpAny (model X.prog X.w) X.A (delItem (.ref l) (.int i t)) Q X.xe s := by
  obtain ⟨z, its, n, r, hl, e⟩ := I.lstM hH
  refine PySem.P.delItem_list (k := k) e (fitsIndex_both h1 h2) (by rw [List.size_toArray, ← hl]; exact hk) (h _ ?_) (by rw [List.size_toArray]; omega)
  refine I.lset (its' := its.eraseIdx k) (t' := s.toks) hH e ?_ (r.eraseIdx k) ?_
  · show its.toArray.eraseIdxIfInBounds k = (its.eraseIdx k).toArray
    rw [List.eraseIdxIfInBounds_toArray]
  · have := len_erase xs k
    omega
end

/-! ### xs[a:b] = ys -/
section
variable {prog : Program} {w : World} {A : Around} {E : Value → Shared → Prop} {s : Shared}
theorem splice_eq (its its2 : List Value) (a c : Nat) : its.toArray.extract 0 a ++ its2.toArray ++ its.toArray.extract c its.toArray.size = (its.take a ++ its2 ++ its.drop c).toArray := by
  apply Array.toList_inj.mp
  first
    | (simp
       exact List.take_of_length_le (by simp))
    | simp [List.take_of_length_le]
    | simp
theorem bounds_run {a c n : Nat} (hac : a ≤ c) (hc : c ≤ n) : sliceBounds (some (a : Int)) (some (c : Int)) none n = ((a : Int), (c : Int), 1) := by
  simp only [sliceBounds, Option.getD_none]
  have h1 : ¬ ((a : Int) < 0) := by omega
  have h2 : ¬ ((c : Int) < 0) := by omega
  simp only [h1, h2, if_false, show (1 : Int) > 0 by decide, if_true]
  congr 1
  · omega
  · congr 1; omega
set_option maxRecDepth 100000 in
/-- list.__setitem__ with a slice of step one and another list -/
theorem setItem_slice {l b sl : Addr} {items new : Array Value} {n n2 : Nat} {vl vu : Value} {a c : Nat} {Q : Unit → Shared → Prop}
    (e : s.heap.get? l = some { cls := .type "list", data := .seq items n }) (e2 : s.heap.get? b = some { cls := .type "list", data := .seq new n2 }) (hne : l ≠ b)
    (hs : s.heap.IsSliceOf sl vl vu .none) (pl : IsPart vl (some (a : Int))) (pu : IsPart vu (some (c : Int))) (hac : a ≤ c) (hc : c ≤ items.size)
    (hsz : items.size + new.size ≤ sizeLine) (h : Q () { s with heap := s.heap.update l (Obj.mapSeq fun xs => xs.extract 0 a ++ new ++ xs.extract c xs.size) }) :
    wpAny (model prog w) A (setItem (.ref l) (.ref sl) (.ref b)) Q E s := by
  have hl : s.heap.IsList l items := PySem.IsL.isList e
  have hb : s.heap.IsList b new := PySem.IsL.isList e2
  obtain ⟨os, hos, hcs, hds⟩ := id hs
  have hTs : s.TypeIs (.ref sl) "slice" := ⟨os, hos, hcs⟩
  have hstep : ¬ ((rawPart none == rawInt 0) = true) := Bool.false_ne_true
  have hsame : Builtin.List.listSameRef (.ref l) (.ref b) = false := by
    unfold Builtin.List.listSameRef
    exact beq_eq_false_iff_ne.mpr hne
  have hmax : (max (a : Int) (c : Int)).toNat = c := by omega
  have hz' : ((fun xs : Array Value => xs.extract 0 a ++ new ++ xs.extract c xs.size) items).size ≤ sizeLine + 1 := by
    simp only [Array.size_append, Array.size_extract]
    omega
  unfold setItem
  try with_reducible refine wpAny_holding ?_
  first | refine wpAny_bind (wpAny_pure ?_) | skip
  refine wpAny_bind (wpAny_sequenceKey hl.typeIs (by decide) ?_)
  refine wpAny_bind (wpAny_callSpecial?_slot (name := Str.ofString "__setitem__") hl.typeIs slot_list_setitem
    (wpAny_call_entry slot_list_setitem hl.typeIs entry_list_setitem ?_ (args_list_setitem _ _ _)))
  show wpAny _ _ (Builtin.List.listSubscript? (.ref sl) >>= _) _ _ s
  refine wpAny_bind ?_
  unfold Builtin.List.listSubscript?
  refine wpAny_bind (wpAny_specialOf hTs slice_no_index ?_)
  simp only [Option.isNone_none, if_true]
  refine wpAny_pure ?_
  show wpAny _ _ (typeOf (.ref sl) >>= _) _ _ s
  refine wpAny_bind (wpAny_typeOf hTs ?_)
  first
    | rw [if_neg (by decide)]
    | refine PySem.W.KFB.if_not (by decide) ?_
  rw [listSliceParts_eq]
  refine wpAny_bind (wpAny_bind (wpAny_field hos hds (x := .none) rfl (wpAny_bind (wpAny_listPart .none ?_))))
  rw [if_neg hstep]
  refine wpAny_bind (wpAny_field hos hds (x := vl) rfl (wpAny_bind (wpAny_listPart pl ?_)))
  refine wpAny_bind (wpAny_field hos hds (x := vu) rfl (wpAny_bind (wpAny_listPart pu (wpAny_pure ?_))))
  first
    | simp only [hsame, Bool.false_eq_true, if_false]
    | refine PySem.W.KFB.if_not hsame ?_
    | (dsimp only
       rw [if_neg (by rw [hsame]; exact Bool.false_ne_true)])
  refine wpAny_bind (m := Builtin.List.listAllItems (.ref b) "must assign iterable to extended slice") ?_
  unfold Builtin.List.listAllItems
  refine wpAny_bind (wpAny_typeOf hb.typeIs ?_)
  first
    | refine PySem.W.KFB.if_so (by decide) ?_
    | rw [if_pos (by decide)]
    | simp only [beq_self_eq_true, Bool.true_or, if_true]
  unfold Builtin.List.listItems
  refine wpAny_bind (wpAny_seqItems e2 rfl (wpAny_pure ?_))
  refine wpAny_bind (wpAny_bind (wpAny_seqItems e rfl (wpAny_pure ?_)))
  refine wpAny_bind (wpAny_of_eq ((sliceIndices_raw (some (a : Int)) (some (c : Int)) none items.size (by simp)).trans (congrArg (pure : Int × Int × Int → Sem (Int × Int × Int)) (bounds_run hac hc))) ?_)
  show wpAny _ _ (if ((1 : Int) == 1) = true then _ else _) _ _ s
  rw [if_pos (by decide)]
  refine wpAny_bind (wpAny_rule ?_)
  first
    | simp only [notLongL hsz, Bool.false_eq_true, if_false]
    | refine PySem.W.KFB.if_not (notLongL hsz) ?_
  first | refine wpAny_bind (wpAny_pure ?_) | skip
  show wpAny _ _ (updateSeq l (fun xs => xs.extract 0 ((a : Int)).toNat ++ new ++ xs.extract (max (a : Int) (c : Int)).toNat xs.size) >>= _) _ _ s
  rw [hmax, Int.toNat_natCast]
  refine wpAny_bind (wpAny_updateSeq (hz := Nat.le_trans (Nat.le_add_right _ _) hsz) (_hz' := hz') e rfl ?_)
  refine wpAny_bind (wpAny_letGo ?_)
  first
    | exact wpAny_bind (wpAny_pure (wpAny_pure ⟨.none, rfl, wpAny_pure h⟩))
    | exact wpAny_pure ⟨.none, rfl, wpAny_pure h⟩
end

section
variable {X : Cx}
/-- xs[a:c] = ys of another list, at the value level: sl is the slice object that was just made -/
theorem set_slice {pins : List (Addr × Obj)} {s : Shared} {σ : St} {H : Hp} {l b sl : Addr} {xs ys : List V} {a c : Int} {vl vu : Value} {Q : Unit → Shared → Prop} (I : Inv X pins σ H s)
    (hH : H l = some (.lst xs)) (hB : H b = some (.lst ys)) (hne : l ≠ b) (hs : s.heap.IsSliceOf sl vl vu .none) (ra : RelV (.int a) vl) (rc : RelV (.int c) vu) (h0 : 0 ≤ a) (hac : a ≤ c) (hc : c ≤ xs.length)
    (hz : xs.length + ys.length ≤ sizeLine) (h : ∀ s', Inv X pins σ (upd H l (.lst (xs.take a.toNat ++ ys ++ xs.drop c.toNat))) s' → Q () s') :
    wpAny (model X.prog X.w) X.A (setItem (.ref l) (.ref sl) (.ref b)) Q X.xe s := by
  obtain ⟨ta, rfl⟩ := ra
  obtain ⟨tc, rfl⟩ := rc
  obtain ⟨z, its, n, r, hl, e⟩ := I.lstM hH
  obtain ⟨z2, its2, n2, r2, hl2, e2⟩ := I.lstM hB
  obtain ⟨a', rfl⟩ := Int.eq_ofNat_of_zero_le h0
  obtain ⟨c', rfl⟩ := Int.eq_ofNat_of_zero_le (Int.le_trans h0 hac)
  simp only [Int.toNat_natCast] at h
  refine setItem_slice (a := a') (c := c') e e2 hne hs (.int _ _) (.int _ _) (by omega) (by rw [List.size_toArray]; omega) (by rw [List.size_toArray, List.size_toArray]; omega) (h _ ?_)
  refine I.lset (its' := its.take a' ++ its2 ++ its.drop c') (t' := s.toks) hH e ?_ (Vals.append (Vals.append (r.take _) r2) (r.drop _)) ?_
  · exact splice_eq its its2 a' c'
  · rw [List.length_append, List.length_append, List.length_take, List.length_drop]
    omega
end
end L2

namespace Att
open PySem PySem.W PySem.Calls PyProof.Rows

/-! ### the script -/
theorem ints_of_wellAll {P : Params} {h : Heap} : ∀ (ns : List Int) (vs : List Value), WellAll P h vs (ns.map WData.int) → IntsAre vs ns := by
  intro ns
  induction ns with
  | nil =>
    intro vs w
    rw [List.map_nil] at w
    cases w
    exact .nil
  | cons n ns ih =>
    intro vs w
    rw [List.map_cons] at w
    cases w with
    | cons a b =>
      cases a
      exact .cons _ _ (ih _ b)

theorem script_of {l : OpenLaw} {n : Nat} (hn : l.most = some n) {P : Params} {h : Heap} {args : List WData} {vals : List Value}
    (hpre : l.row.toRowW.claim.pre args = true) (hwl : WellAll P h vals args) :
    ∃ a vs ns, vals = [Value.ref a] ∧ args = [WData.list (ns.map WData.int)] ∧ h.get? a = some { cls := .type "list", data := .seq vs.toArray } ∧ IntsAre vs ns ∧ ns.length ≤ n := by
  have hsh : WShape.hasAll [] args [.list .int] = true := (pre_splitW hpre).1
  have hc : l.pre.holds [] { args := args } = true := (pre_splitW hpre).2
  obtain ⟨d, r, rfl, h1, h2⟩ := hasAllW_cons hsh
  obtain rfl := hasAllW_nil h2
  obtain ⟨xs, rfl, h3⟩ := hasW_list h1
  obtain ⟨ns, rfl⟩ := items_int h3
  have hlen : ns.length ≤ n := by
    unfold OpenLaw.pre at hc
    have h4 : (WTm.not (.lt (.lit (.int (n : Int))) (.len (.arg 0)))).holds [] { args := [.list (ns.map .int)] } = true := by
      have h4 := (holds_andW hc).1
      rw [hn] at h4
      exact h4
    have h5 := condW_of h4 (w_not (w_lt w_lit (w_len_list (w_arg rfl))))
    rw [List.length_map] at h5
    refine Nat.le_of_not_lt fun q => ?_
    have q' : (n : Int) < ((ns.length : Nat) : Int) := by omega
    first
      | (rw [decide_eq_true q'] at h5; exact absurd h5 (by decide))
      | (simp at h5; omega)
  cases hwl with
  | cons w1 w2 =>
    cases w2
    cases w1 with
    | list ho hall => exact ⟨_, _, ns, rfl, rfl, ho, ints_of_wellAll ns _ hall, hlen⟩

theorem post_true (l : OpenLaw) (args : List WData) : l.row.toRowW.claim.post args (.bool true) args = true :=
  postW_of (r := l.row.toRowW) (X := (true == true))
    (show WShape.has [] (.bool true) .bool = true by first | rfl | decide | simp [WShape.has, WShape.arms, WShape.armsAll])
    (show (WTm.eq .res (.lit (.bool true))).value [] { args := args, res := some (.bool true), after := args } = some (.bool (true == true)) from w_eq_bool (w_res rfl) w_lit) rfl

/-! ### the attachment: holds_open's last premise (the goal 'hc' behind k_head) from a wpAny of the law's body -/
theorem attach {l : OpenLaw} {n : Nat} {q : Program} {loose : List Str} {XP : (Str → Option Value) → Heap → Prop} {YP : World → Heap → Prop} {d : DefRec} {x : Str}
    (hn : l.most = some n) (hdf : d.params.defaults = [])
    (hbind : ∀ pm cd doc v : Value, bindArgs (docDef d.name d.params d.body d.scope pm cd doc) ⟨[v], []⟩ = pure [(x, v)])
    (hx : d.scope.names.lookup x = some .local ∨ d.scope.names.lookup x = some .cell)
    (hk : d.scope.kind = .function) (hco : d.scope.isCoroutine = false) (hgen : d.scope.isGenerator = false)
    (body : ∀ (w : World) (s₀ s₁ s : Shared) (mg mb : Str → Option Value) (fa : Addr) (o : Obj) (pm cd doc : Value) (a : Addr) (vs : List Value) (ns : List Int),
      Ground q loose [] XP w s₀ mg mb s₁.heap → YP w s₁.heap →
      s₁.heap.get? fa = some o → o.data = .func (docDef d.name d.params d.body d.scope pm cd doc) → s₁.heap.CodeRec cd d.name → mg d.name = some (.ref fa) →
      s₁.heap.get? a = some { cls := .type "list", data := .seq vs.toArray } → IntsAre vs ns → ns.length ≤ n →
      s.gens = #[] → s.os = s₁.os →
      Fr s₁.heap s₁.heap.objs.size s.heap (bindL (envOfC d.name d.scope s₁.heap.objs.size fa cd).kindOf [(x, .ref a)] fun _ => none) →
      Cl s₁.heap.objs.size (cellsFrom (s₁.heap.objs.size + 1) d.scope.names []) s.heap (bindC (envOfC d.name d.scope s₁.heap.objs.size fa cd).kindOf [(x, .ref a)] fun _ => none) →
      wpAny (model l.prog w) (callerA.deeper (envOfC d.name d.scope s₁.heap.objs.size fa cd)) (execs d.body (envOfC d.name d.scope s₁.heap.objs.size fa cd))
        (fun f s' => f = .ret (.bool true) ∧ OldK s₁.heap s'.heap ∧ s'.os = s₁.os ∧ AllBare s'.gens) (fun _ _ => False) s) :
    WalkO q loose XP YP l.row.toRowW d [] (fun f vs => PySem.call f vs) := by
  intro w s₀ s₁ mg mb G Y fa o pm cd doc dV kV ho hd hcd hD hmg hg args vals as hpre hlay hrd hwl hlo
  obtain rfl : dV = .none := Dflts.none hD hdf
  obtain rfl : kV = .none := Dflts.noKw hD
  obtain ⟨a, vs, ns, rfl, rfl, hobj, hints, hlen⟩ := script_of hn hpre hwl
  refine enter_call ?_
  refine call_cells_ret (o := o) (by rw [depth_caller]; decide) ho (fd_plain hd) G.T.nolimit hcd (hbind pm cd doc (.ref a)) (fun y hy => ?_) (fun h₁ tk F X => ?_) hco hgen hk
  · obtain rfl : y = (x, Value.ref a) := List.mem_singleton.mp hy
    rcases hx with e | e
    · exact .inl e
    · exact .inr ⟨e, cellsFrom_some _ _ _ (.inl e)⟩
  · refine wpAny_mono (body w s₀ s₁ { s₁ with heap := h₁, toks := tk } mg mb fa o pm cd doc a vs ns G Y ho (fd_plain hd) hcd hmg hobj hints hlen hg rfl F X) (fun f s' hq => ?_) (fun _ _ hq => hq)
    obtain ⟨rfl, h2, h3, h4⟩ := hq
    exact ⟨.inl ⟨.bool true, .bool true, [], rfl, fun _ => rfl, .bool true, post_true l _, fun _ => ⟨List.Pairwise.nil, fun _ hm => (nomatch hm)⟩⟩, h2, h3, h4⟩

/-- the same from a codeAny of the CALL (for a layer whose function contracts speak of calls) -/
theorem attach_call {l : OpenLaw} {n : Nat} {q : Program} {loose : List Str} {XP : (Str → Option Value) → Heap → Prop} {YP : World → Heap → Prop} {d : DefRec}
    (hn : l.most = some n) (hdf : d.params.defaults = [])
    (call : ∀ (w : World) (s₀ s₁ : Shared) (mg mb : Str → Option Value) (fa : Addr) (o : Obj) (pm cd doc : Value) (a : Addr) (vs : List Value) (ns : List Int),
      Ground q loose [] XP w s₀ mg mb s₁.heap → YP w s₁.heap →
      s₁.heap.get? fa = some o → o.data = .func (docDef d.name d.params d.body d.scope pm cd doc) → s₁.heap.CodeRec cd d.name → mg d.name = some (.ref fa) →
      s₁.heap.get? a = some { cls := .type "list", data := .seq vs.toArray } → IntsAre vs ns → ns.length ≤ n → s₁.gens = #[] →
      codeAny (model l.prog w) callerA (.call (.ref fa) ⟨[.ref a], []⟩) (fun r s' => r = .ok (.ret (.bool true)) ∧ OldK s₁.heap s'.heap ∧ s'.os = s₁.os ∧ AllBare s'.gens) s₁) :
    WalkO q loose XP YP l.row.toRowW d [] (fun f vs => PySem.call f vs) := by
  intro w s₀ s₁ mg mb G Y fa o pm cd doc dV kV ho hd hcd hD hmg hg args vals as hpre hlay hrd hwl hlo
  obtain rfl : dV = .none := Dflts.none hD hdf
  obtain rfl : kV = .none := Dflts.noKw hD
  obtain ⟨a, vs, ns, rfl, rfl, hobj, hints, hlen⟩ := script_of hn hpre hwl
  refine enter_call (codeAny_mono (call w s₀ s₁ mg mb fa o pm cd doc a vs ns G Y ho (fd_plain hd) hcd hmg hobj hints hlen hg) fun r s' hq => ?_)
  obtain ⟨rfl, h2, h3, h4⟩ := hq
  exact ⟨.inl ⟨.bool true, .bool true, [], rfl, fun _ => rfl, .bool true, post_true l _, fun _ => ⟨List.Pairwise.nil, fun _ hm => (nomatch hm)⟩⟩, h2, h3, h4⟩

/-- the same where the top left finished generators (o_head chose holds_openN): nothing may have changed at all and no generator may be left -/
theorem attachN {l : OpenLaw} {n : Nat} {q : Program} {loose : List Str} {XP : (Str → Option Value) → Heap → Prop} {YP : World → Heap → Prop} {d : DefRec} {x : Str}
    (hn : l.most = some n) (hdf : d.params.defaults = [])
    (hbind : ∀ pm cd doc v : Value, bindArgs (docDef d.name d.params d.body d.scope pm cd doc) ⟨[v], []⟩ = pure [(x, v)])
    (hx : d.scope.names.lookup x = some .local ∨ d.scope.names.lookup x = some .cell)
    (hk : d.scope.kind = .function) (hco : d.scope.isCoroutine = false) (hgen : d.scope.isGenerator = false)
    (body : ∀ (w : World) (s₀ s₁ s : Shared) (mg mb : Str → Option Value) (fa : Addr) (o : Obj) (pm cd doc : Value) (a : Addr) (vs : List Value) (ns : List Int),
      Ground q loose [] XP w s₀ mg mb s₁.heap → YP w s₁.heap →
      s₁.heap.get? fa = some o → o.data = .func (docDef d.name d.params d.body d.scope pm cd doc) → s₁.heap.CodeRec cd d.name → mg d.name = some (.ref fa) →
      s₁.heap.get? a = some { cls := .type "list", data := .seq vs.toArray } → IntsAre vs ns → ns.length ≤ n →
      s.gens = #[] → s.os = s₁.os →
      Fr s₁.heap s₁.heap.objs.size s.heap (bindL (envOfC d.name d.scope s₁.heap.objs.size fa cd).kindOf [(x, .ref a)] fun _ => none) →
      Cl s₁.heap.objs.size (cellsFrom (s₁.heap.objs.size + 1) d.scope.names []) s.heap (bindC (envOfC d.name d.scope s₁.heap.objs.size fa cd).kindOf [(x, .ref a)] fun _ => none) →
      wpAny (model l.prog w) (callerA.deeper (envOfC d.name d.scope s₁.heap.objs.size fa cd)) (execs d.body (envOfC d.name d.scope s₁.heap.objs.size fa cd))
        (fun f s' => f = .ret (.bool true) ∧ (∀ b o, s₁.heap.get? b = some o → s'.heap.get? b = some o) ∧ s'.os = s₁.os ∧ s'.gens = #[]) (fun _ _ => False) s) :
    WalkN q loose XP YP l.row.toRowW d [] (fun f vs => PySem.call f vs) := by
  intro w s₀ s₁ mg mb G Y fa o pm cd doc dV kV ho hd hcd hD hmg hg args vals as hpre hlay hrd hwl hlo
  obtain rfl : dV = .none := Dflts.none hD hdf
  obtain rfl : kV = .none := Dflts.noKw hD
  obtain ⟨a, vs, ns, rfl, rfl, hobj, hints, hlen⟩ := script_of hn hpre hwl
  refine enter_callW ?_
  refine call_cells_ret (o := o) (by rw [depth_caller]; decide) ho (fd_plain hd) G.T.nolimit hcd (hbind pm cd doc (.ref a)) (fun y hy => ?_) (fun h₁ tk F X => ?_) hco hgen hk
  · obtain rfl : y = (x, Value.ref a) := List.mem_singleton.mp hy
    rcases hx with e | e
    · exact .inl e
    · exact .inr ⟨e, cellsFrom_some _ _ _ (.inl e)⟩
  · refine wpAny_mono (body w s₀ s₁ { s₁ with heap := h₁, toks := tk } mg mb fa o pm cd doc a vs ns G Y ho (fd_plain hd) hcd hmg hobj hints hlen hg rfl F X) (fun f s' hq => ?_) (fun _ _ hq => hq)
    obtain ⟨rfl, h2, h3, h4⟩ := hq
    exact ⟨.inl ⟨.bool true, .bool true, [], rfl, fun _ => rfl, .bool true, post_true l _, fun _ => ⟨List.Pairwise.nil, fun _ hm => (nomatch hm)⟩⟩, h2, h3, h4⟩

/-! ### rules over ANY heap (no ledger) from facts about the written part K: the library's own take a ledger (News) for what they write -/
section
variable {prog : Program} {w : World} {A : Around} {E : Value → Shared → Prop} {s : Shared} {K : Frag}

/-- a def of the module, or a method (qual 'C.m'), entered: the frame is the next address; cells behind it -/
theorem call_fn {R : Result → Shared → Prop} {name qual : Str} {params : Arguments} {body : List Stmt} {scope : Scope} {dV kV doc pm cdv ct oc : Value} {an od : Option Addr} {osl : Array (Option Value)} {f : Addr} {args : Args} {binds : List (Str × Value)}
    (X : K.In s.heap) (hlim : s.heap.NoLimit) (ho : K.lookup f = some ⟨oc, od, .func (fnOf name qual params body scope dV kV doc pm an cdv ct), osl⟩) (hcd : codeIn K cdv qual = true) (hroom : A.depth < recursionLimit)
    (hbind : BindsTo s (fnOf name qual params body scope dV kV doc pm an cdv ct) args binds)
    (hkind : (binds.all fun y => scope.names.lookup y.1 == some .local || scope.names.lookup y.1 == some .cell) = true)
    (h : ∀ s₁, InCallC s s.heap.objs.size (bindL (envOfC qual scope s.heap.objs.size f cdv).kindOf binds fun _ => none) (cellsFrom (s.heap.objs.size + 1) scope.names [])
        (bindC (envOfC qual scope s.heap.objs.size f cdv).kindOf binds fun _ => none) s₁ →
      wpAny (model prog w) (A.deeper (envOfC qual scope s.heap.objs.size f cdv)) (execs body (envOfC qual scope s.heap.objs.size f cdv))
        (fun fl s' => R (.ok (.ret (match fl with | .ret v => v | _ => .none))) s')
        (fun e s' => wpAny (model prog w) (A.deeper (envOfC qual scope s.heap.objs.size f cdv)) (leaving (envOfC qual scope s.heap.objs.size f cdv) e) (fun _ s'' => R (.error e) s'') (fun e' s'' => R (.error e') s'') s') s₁)
    (hco : scope.isCoroutine = false) (hgen : scope.isGenerator = false) (hk : scope.kind = .function) : codeAny (model prog w) A (.call (.ref f) args) R s := by
  refine codeAny_call_function hroom (X _ _ ho) rfl hco hgen rfl (codeRec_of X hcd) (hbind _ _ _ _ ?_)
  refine wpAny_newFunctionEnv_cells hk (kindsX hkind _) fun env he s₁ x => ?_
  subst he
  exact ⟨hlim.keeps x.toInCall.keep, codeAny_func (h s₁ x)⟩

/-- C(..): dict at size, instance at size + 1, then __init__ -/
theorem make_obj {R : Result → Shared → Prop} {C fI : Addr} {rest : List Value} {kw : List (Str × Value)}
    (X : K.In s.heap) (hm : makesIn K C = true) (hi : findIn K (.ref C) "__init__" = some (some (.ref fI))) (hf : isFn K (.ref fI) = true)
    (h : codeAny (model prog w) (A.under (.builtin "type.__call__" ⟨.ref C :: rest, kw⟩)) (.call (.ref fI) ⟨.ref (s.heap.objs.size + 1) :: rest, kw⟩) (InitBack (s.heap.objs.size + 1) R)
      { s with heap := (s.heap.push emptyDict).push (instObj C s.heap.objs.size) }) : codeAny (model prog w) A (.call (.ref C) ⟨rest, kw⟩) R s := by
  obtain ⟨hh, g, d, t, os⟩ := s
  exact make_core (makes_of X hm) (looks_findIn X hi) (fun self => bind_fn X self (beq_iff_eq.mp hf)) (.inl rfl) h

/-- x.name where the instance's dict holds the name and the class does not -/
theorem get_field {x C : Addr} {ox : Obj} {es : List DictEntry} {n : Nat} {name : Str} {expr : Bool} {v : Value} {Q : Value → Shared → Prop}
    (X : K.In s.heap) (I : PySem.W.InstAt s.heap x ox C (some (dictOf es n))) (hg : plainGet K C name = true) (hh : hasDictIn K C = true) (ha : findIn K (.ref C) name = some none)
    (hl : getL name es = some (some v)) (hv : handedIn v = true) (h : Q v { s with toks := s.toks + 1 }) : wpAny (model prog w) A (getAttr (.ref x) name expr) Q E s :=
  get_value X I (plainGet_of hg).1 (findObj_own hh ha rfl hl) hv h

/-- x.m(..): the method found in the class -/
theorem get_method {x C f : Addr} {ox : Obj} {es : List DictEntry} {n : Nat} {name : Str} {pl : Sem Bool} {Q : Value × List Value → Shared → Prop}
    (X : K.In s.heap) (I : PySem.W.InstAt s.heap x ox C (some (dictOf es n))) (hg : plainGet K C name = true) (hf : findIn K (.ref C) name = some (some (.ref f))) (ht : isFn K (.ref f) = true)
    (hl : getL name es = some none) (h : Q (.ref f, [.ref x]) s) : wpAny (model prog w) A (getMethod (.ref x) name pl) Q E s :=
  method_fn X I (plainGet_of hg).1 (plainGet_of hg).2 hf (beq_iff_eq.mp ht) (by show (lookIn name (dictOf es n)).map _ = _; rw [lookIn_dict, hl]; rfl) h

/-! the whole heap as the ledger: makes every rule that writes through a ledger a rule over any heap -/
def noObjs (h : Heap) : Heap := { h with objs := #[] }
theorem noObjs_get (h : Heap) (b : Addr) : (noObjs h).get? b = none := by
  cases e : (noObjs h).get? b with
  | none => rfl
  | some o => exact absurd (Heap.lt_size e) (Nat.not_lt_zero _)
def ledger (h : Heap) (L d : Addr) : List (Addr × Obj) := (List.range h.objs.size).filterMap fun a => if a = L ∨ a = d then none else (h.get? a).map fun o => (a, o)
theorem mem_ledger {h : Heap} {L d a : Addr} {o : Obj} : (a, o) ∈ ledger h L d ↔ a ≠ L ∧ a ≠ d ∧ h.get? a = some o := by
  unfold ledger
  rw [List.mem_filterMap]
  constructor
  · rintro ⟨b, _, e⟩
    split at e
    · cases e
    · rename_i hb
      obtain ⟨o', ho, e'⟩ := Option.map_eq_some_iff.mp e
      cases e'
      exact ⟨fun q => hb (.inl q), fun q => hb (.inr q), ho⟩
  · rintro ⟨n1, n2, ho⟩
    refine ⟨a, List.mem_range.mpr (Heap.lt_size ho), ?_⟩
    rw [if_neg (show ¬ (a = L ∨ a = d) from fun q => q.elim n1 n2), ho] <;> rfl
theorem news_ledger {h : Heap} {L d : Addr} {od : Obj} (hne : d ≠ L) (ho : h.get? d = some od) : News (noObjs h) L h ([] ++ (d, od) :: ledger h L d) := by
  rintro ⟨a, o⟩ hp
  rcases List.mem_cons.mp hp with e | hp
  · cases e
    exact ⟨ho, hne, noObjs_get _ _⟩
  · obtain ⟨n1, n2, e⟩ := mem_ledger.mp hp
    exact ⟨e, n1, noObjs_get _ _⟩
theorem fr_all {h : Heap} {L : Addr} {m : Str → Option Value} (n : h.Ns L m) : Fr (noObjs h) L h m :=
  ⟨n, fun b o e => (by rw [noObjs_get] at e; cases e), Nat.zero_le _⟩
/-- Upd of the head entry (for append_K, setItem_K ..) -/
theorem upd_ledger {h : Heap} {L d : Addr} {o o' : Obj} : Upd d o o' ((d, o) :: ledger h L d) ((d, o') :: ledger h L d) :=
  .head fun ⟨_, _⟩ hp => (mem_ledger.mp hp).2.1

/-- x.name = v over any heap: L is any namespace of the heap (the frame's, say): its map stays, its object is not told; all else but the dict stays -/
theorem set_field {x C dx L : Addr} {ox : Obj} {m : Str → Option Value} {es es' : List DictEntry} {n n' : Nat} {name : Str} {v : Value} {Q : Unit → Shared → Prop}
    (X : K.In s.heap) (I : PySem.W.InstAt s.heap x ox C (some (dictOf es n))) (hd : ox.dict = some dx) (hL : s.heap.Ns L m) (hne : dx ≠ L)
    (hs : findIn K (.ref C) "__setattr__" = some (some (.builtin "object.__setattr__"))) (hp : plainOver K C = true) (ht : takerIn K C name = some none) (hh : hasDictIn K C = true) (hl : (getL name es).isSome = true)
    (e : (putL name (PyData.keyHash w.params name) (.str name (s.toks + 1)) v es, putN name es n) = (es', n')) (hz : es'.length ≤ 1000)
    (h : ∀ h' : Heap, h'.Ns L m → h'.get? dx = some (dictOf es' n') → (∀ b o, b ≠ dx → b ≠ L → s.heap.get? b = some o → h'.get? b = some o) → Q () { s with heap := h', toks := s.toks + 2 }) :
    wpAny (model prog w) A (setAttr (.ref x) name v) Q E s := by
  obtain ⟨e1, e2⟩ := Prod.mk.inj e
  have hdx : s.heap.get? dx = some (dictOf es n) := by
    have := I.dict
    rw [hd] at this
    exact this
  refine set_plain X I hs (osa_dict (s := { s with toks := s.toks + 1 }) (h₀ := noObjs s.heap) (L := L) (m := m) (od := dictOf es n) (od' := dictOf es' n') (es := es') (n := n') (pre := []) (post := ledger s.heap L dx)
    (fr_all hL) (news_ledger hne hdx) X I hd hp ht hh hl (fun _ q => nomatch q) (fun ⟨_, _⟩ q => (mem_ledger.mp q).2.1) (by rw [putName_dict, e1, e2]) rfl hz fun h' F' N' => ?_)
  exact h h' F'.ns (N'.get (List.Mem.head _)) fun b o n1 n2 ho => N'.get (List.Mem.tail _ (mem_ledger.mpr ⟨n2, n1, ho⟩))
end
end Att

namespace L2
open PySem PySem.Spec PyProof.Rows

theorem vals_ints : ∀ {vs : List Value} {ns : List Int}, IntsAre vs ns → Vals (ns.map V.int) vs
  | _, _, .nil => .nil
  | _, _, .cons n t h => .cons ⟨t, rfl⟩ (vals_ints h)

/-- nothing is tracked but the script, known to the object (or it is an object of the module) -/
def Only (H : Hp) : Prop := ∀ b, H b = none ∨ ∃ o xs, H b = some (.frz o (.lst xs))

/-- THE HEAD: the law's promise, at the heap behind the top. F, the promise of the law's def, may use that base is part of the heap (so K.In base, base.Ns mainGlobals mg stand in Mod) -/
theorem law_call {P : Program} {w : World} {K : PySem.W.Frag} {mg mb : Str → Option Value} {CX : CXT} {k : Nat} {fa a : Addr} {fd : FuncData} {x : Str} {sp : Sp} {s₁ : Shared} {vs : List Value} {ns : List Int}
    (KX : K.In s₁.heap) (hns : s₁.heap.Ns mainGlobals mg) (hb : s₁.heap.Ns builtinsNs mb) (hbb : ∀ x : Str, x ≠ "__name__" → mb x = bootBuiltins x) (hlim : s₁.heap.NoLimit) (hg : s₁.gens = #[])
    (ha : s₁.heap.get? a = some { cls := .type "list", data := .seq vs.toArray }) (hi : IntsAre vs ns) (hl : ns.length ≤ sizeLine) (hr : Room k callerA)
    (F : ∀ base : Heap, K.In base → base.Ns mainGlobals mg → FnOk P w K mg base CX k fa fd [x] sp) (hbind : ∀ (s : Shared) (u : Value), BindsTo s fd ⟨[u], []⟩ [(x, u)])
    (hsp : ∀ H : Hp, Only H → SqL K H a (ns.map V.int) → sp [.ref a] H (fun v _ => v = .bl true) fun _ _ _ => False)
    (hCX : ∀ H e s', CX [] H s₁ (fun _ _ _ => False) e s' → False) :
    codeAny (model P w) callerA (.call (.ref fa) ⟨[.ref a], []⟩) (fun r s' => r = .ok (.ret (.bool true)) ∧ OldK s₁.heap s'.heap ∧ s'.os = s₁.os ∧ AllBare s'.gens) s₁ := by
  have rv := vals_ints hi
  have lenV := hi.length
  -- from an abstract heap in which nothing but the script may be tracked
  have core : ∀ H : Hp, Only H → SqL K H a (ns.map V.int) → HOk P w H s₁.heap → (∀ b, H b ≠ none → b = a) → (H a ≠ none → K.lookup a = none) →
      codeAny (model P w) callerA (.call (.ref fa) ⟨[.ref a], []⟩) (fun r s' => r = .ok (.ret (.bool true)) ∧ OldK s₁.heap s'.heap ∧ s'.os = s₁.os ∧ AllBare s'.gens) s₁ := by
    intro H hO hS hok hA hK
    have base_of : ∀ {b : Addr} {o : Obj}, s₁.heap.get? b = some o → H b = none → (hidT s₁.heap H).get? b = some o := fun e n => hidT_get e n
    have noA : ∀ {b : Addr} {o : Obj} {es : Array DictEntry} {ep : Nat}, s₁.heap.get? b = some o → o.data = .dict es ep → H b = none := fun {b o es ep} e d => by
      cases q : H b with
      | none => rfl
      | some u =>
        have e' : b = a := hA b (by rw [q]; simp)
        subst e'
        rw [ha] at e; cases e
        have d' : Data.seq vs.toArray _ = Data.dict es ep := d
        cases d'
    have nsK : ∀ {b : Addr} {m : Str → Option Value}, s₁.heap.Ns b m → (hidT s₁.heap H).Ns b m := fun {b m} ⟨o, es, ep, e, d, r⟩ => ⟨o, es, ep, base_of e (noA e d), d, r⟩
    have hKb : K.In (hidT s₁.heap H) := fun b o e => base_of (KX b o e) (by
      cases q : H b with
      | none => rfl
      | some u =>
        have e' : b = a := hA b (by rw [q]; simp)
        subst e'
        rw [hK (by rw [q]; simp)] at e; cases e)
    have hM : Mod K mg (hidT s₁.heap H) := ⟨hKb, nsK hns, ⟨mb, nsK hb, hbb⟩, let ⟨mc, h1, h2⟩ := hlim; ⟨mc, nsK h1, h2⟩⟩
    have e0 : Env0 P w K mg (hidT s₁.heap H) callerA [] s₁ H := ⟨rfl, hM, fun b o e => of_hidT e, Nat.le_of_eq (hidT_size _ _), trivial, fun b hb => absurd (show b ∈ ([] : List Addr) from hb) (by simp), hok, .of_eq hg⟩
    refine codeAny_mono ((F _ hKb (nsK hns)).run callerA [] s₁ H ⟨[.ref a], []⟩ [.ref a] [.ref a] _ _ hr e0 (hbind s₁ (.ref a)) (.cons rfl .nil) (hsp H hO hS)) fun r s' h => ?_
    cases r with
    | error e => exact (hCX H e s' h).elim
    | ok fl =>
      cases fl with
      | next => exact False.elim h
      | brk => exact False.elim h
      | cont => exact False.elim h
      | ret u =>
        obtain ⟨v, H', os, bare, un, hok', r', q⟩ := h
        have q' : v = .bl true := q
        subst q'
        obtain rfl : u = Value.bool true := r'
        refine ⟨rfl, OldK.of_keep fun b o e => ?_, os, bare⟩
        cases q : H b with
        | none => exact un.keep b o e q (by intro z; exact absurd (show b ∈ ([] : List Addr) from z) (by simp)) (by simp)
        | some u =>
          rcases hO b with z | ⟨ob, xs, z⟩
          · rw [q] at z; cases z
          · have z2 := un.frzs b ob _ z
            obtain ⟨e1, _⟩ := hok b _ z
            obtain ⟨e2, _⟩ := hok' b _ z2
            rw [e] at e1; cases e1
            exact e2
  cases hk : K.lookup a with
  | some o =>
    -- the script is one of the module's own objects
    have e := KX a o hk
    rw [ha] at e
    cases e
    refine core (fun _ => none) (fun _ => .inl rfl) (.inr ⟨_, vs.toArray, _, hk, rfl, rfl, rfl, by rw [List.size_toArray, lenV]; exact hl, by simpa using rv⟩) (fun b u z => by have z' : (none : Option HO) = some u := z; cases z') (fun b z => absurd rfl z) fun z => absurd rfl z
  | none =>
    refine core (fun b => if b = a then some (.frz { cls := .type "list", data := .seq vs.toArray } (.lst (ns.map V.int))) else none) (fun b => ?_) (.inl (.inr ⟨{ cls := .type "list", data := .seq vs.toArray }, if_pos rfl⟩)) (fun b u z => ?_) (fun b z => ?_) fun _ => hk
    · by_cases hb : b = a
      · exact .inr ⟨_, _, if_pos hb⟩
      · exact .inl (if_neg hb)
    · by_cases hb : b = a
      · have z' := (if_pos hb).symm.trans z
        cases z'
        subst hb
        exact ⟨ha, by rw [List.length_map]; exact hl, vs, _, rv, ha⟩
      · have z' := (if_neg hb).symm.trans z
        cases z'
    · by_cases hb : b = a
      · exact hb
      · exact absurd (if_neg hb) z
end L2

namespace L2
open PySem PySem.Spec PyProof.Rows

abbrev KOf {K : PySem.W.Frag} {h : Heap} (_ : K.In h) : PySem.W.Frag := K

/-- the goal that k_head leaves (case hc), from the law's promise. F gives the function object fd (K's own) once, then the promise over every base -/
theorem walk_of {l : PySem.W.OpenLaw} {n k : Nat} {q : Program} {loose : List Str} {XP : (Str → Option Value) → Heap → Prop} {YP : World → Heap → Prop} {d : DefRec} {K : Params → PySem.W.Frag} {CX : World → CXT} {sp : World → Sp} {x : Str}
    (hn : l.most = some n) (hn2 : n ≤ sizeLine) (hdf : d.params.defaults = []) (hr : Room k callerA)
    (hY : ∀ (w : World) (h : Heap), YP w h → (K w.params).In h)
    (F : ∀ (w : World) (mg : Str → Option Value) (fa : Addr) (h : Heap), (K w.params).In h → h.Ns mainGlobals mg → mg d.name = some (.ref fa) →
      ∃ fd : FuncData, (∀ (s : Shared) (u : Value), BindsTo s fd ⟨[u], []⟩ [(x, u)]) ∧
        ∀ base : Heap, (K w.params).In base → base.Ns mainGlobals mg → FnOk l.prog w (K w.params) mg base (CX w) k fa fd [x] (sp w))
    (hsp : ∀ (w : World) (H : Hp) (a : Addr) (ns : List Int), ns.length ≤ n → Only H → SqL (K w.params) H a (ns.map V.int) → sp w [.ref a] H (fun v _ => v = .bl true) fun _ _ _ => False)
    (hCX : ∀ (w : World) (H : Hp) (s : Shared) (e : Value) (s' : Shared), CX w [] H s (fun _ _ _ => False) e s' → False) :
    PySem.W.WalkO q loose XP YP l.row.toRowW d [] (fun f vs => PySem.call f vs) := by
  refine Att.attach_call hn hdf fun w s₀ s₁ mg mb fa o pm cd doc a vs ns G Y ho hd hcd hmg hobj hints hlen hg => ?_
  have KX := hY w _ Y
  obtain ⟨fd, hb, hF⟩ := F w mg fa _ KX G.T.g hmg
  exact law_call KX G.T.g G.T.b G.T.builtins G.T.nolimit hg hobj hints (Nat.le_trans hlen hn2) hr hF hb (fun H hO hS => hsp w H a ns hlen hO hS) fun H e s' => hCX w H s₁ e s'
/-- the same where the promise hangs on the written part alone: (sp := My.sp_law), no hole under a binder -/
theorem walk_ofK {l : PySem.W.OpenLaw} {n k : Nat} {q : Program} {loose : List Str} {XP : (Str → Option Value) → Heap → Prop} {YP : World → Heap → Prop} {d : DefRec} {K : Params → PySem.W.Frag} {CX : CXT} {sp : PySem.W.Frag → Sp} {x : Str}
    (hn : l.most = some n) (hn2 : n ≤ sizeLine) (hdf : d.params.defaults = []) (hr : Room k callerA)
    (hY : ∀ (w : World) (h : Heap), YP w h → (K w.params).In h)
    (F : ∀ (w : World) (mg : Str → Option Value) (fa : Addr) (h : Heap), (K w.params).In h → h.Ns mainGlobals mg → mg d.name = some (.ref fa) →
      ∃ fd : FuncData, (∀ (s : Shared) (u : Value), BindsTo s fd ⟨[u], []⟩ [(x, u)]) ∧
        ∀ base : Heap, (K w.params).In base → base.Ns mainGlobals mg → FnOk l.prog w (K w.params) mg base CX k fa fd [x] (sp (K w.params)))
    (hsp : ∀ (K : PySem.W.Frag) (H : Hp) (a : Addr) (ns : List Int), ns.length ≤ n → Only H → SqL K H a (ns.map V.int) → sp K [.ref a] H (fun v _ => v = .bl true) fun _ _ _ => False)
    (hCX : ∀ (H : Hp) (s : Shared) (e : Value) (s' : Shared), CX [] H s (fun _ _ _ => False) e s' → False) :
    PySem.W.WalkO q loose XP YP l.row.toRowW d [] (fun f vs => PySem.call f vs) :=
  walk_of (K := K) (CX := fun _ => CX) (sp := fun w => sp (K w.params)) hn hn2 hdf hr hY F (fun w H a ns h1 h2 h3 => hsp (K w.params) H a ns h1 h2 h3) fun _ H s e s' => hCX H s e s'
end L2

/- THE LAST THEOREM (shape; LID, My.* are yours):
   My.Adr: a structure of the addresses that your layer names (classes, functions); My.Txt K t: a structure (Prop) of the equations over K;
   My.txt_mk : {K} {implicit addresses ..} (e1 : nsIn K mainGlobals "law" = some (some (.ref f))) (e2 : K.lookup f = some ⟨oc, od, .func (fnOf "law" "law" params body scope dV kV doc pm an cdv ct), sl⟩) (e3 : codeIn K cdv "law" = true) .. : ∃ t, My.Txt K t

set_option maxRecDepth 100000 in
set_option maxHeartbeats 0 in
theorem PySem.Challenge.cw_LID_holds : PySem.Challenge.rw_LID.Holds := by
  w_on; o_law; k_head; (case hw => w_witness2)
  k_fill
  refine L2.walk_of (l := PySem.Challenge.rw_LID) (n := 63) (k := 40) (x := "script") (CX := fun w => ..) (sp := fun _ => My.sp_law) rfl (by decide) rfl ⟨rfl, by decide, by decide⟩ (fun w h Y => PySem.W.kIn_of Y) ?F ?S ?C
  case F =>
    intro w mg fa h KX G hmg
    have T : ∃ t, My.Txt (L2.KOf KX) t := by
      dsimp only [L2.KOf]                          -- K must stand as «<heap const> w.params» for k_is
      refine' My.txt_mk ?e1 ?e2 ?e3 ..
      (case e1 => PySem.W.k_is)                    -- in the order: a name -> its address -> its object -> its parts
      (case e2 => PySem.W.k_is)
      ..
    obtain ⟨t, T⟩ := T
    have e0 := hmg.symm.trans (PySem.W.mg_of KX G T.law)
    cases e0                                       -- fa is the law's own address
    exact ⟨_, fun s u => .of_eq rfl, fun base kb nb => My.law_fn T kb nb⟩     -- if «.of_eq rfl» comes too early: refine' ⟨_, ?b, fun base kb nb => My.law_fn T kb nb⟩; exact fun s u => .of_eq rfl
  case S => exact fun w H a ns hl hO hS => ..
  case C => exact ..
(the tactic k_is has no namespace: write k_is) -/

/-! SHORT WORDS over the layer: a def of the text, its body, what a loop and a test want. -/
namespace L2
open PySem PySem.Spec PyProof.Rows

/-! ### the text by places -/
/-- the j-th statement of a class's body -/
def inClass (s : Stmt) (j : Nat) : Stmt := match s with
  | .ClassDef _ _ _ body _ _ _ _ _ _ _ => body.getD j (.Pass ⟨0, 0, 0, 0⟩)
  | _ => .Pass ⟨0, 0, 0, 0⟩
def defArgs (s : Stmt) : Arguments := match s with
  | .FunctionDef _ a _ _ _ _ _ _ _ _ => a
  | _ => { posonlyargs := [], args := [], vararg := none, kwonlyargs := [], kw_defaults := [], kwarg := none, defaults := [] }
def defBody (s : Stmt) : List Stmt := match s with
  | .FunctionDef _ _ b _ _ _ _ _ _ _ => b
  | _ => []
def defScope (s : Stmt) : Scope := match s with
  | .FunctionDef _ _ _ _ _ _ sc _ _ _ => sc
  | _ => { kind := .function, names := [], isGenerator := false, isCoroutine := false }

/-! ### no exception leaves a def -/
abbrev CX0 : CXT := fun _ _ _ _ _ _ => False
abbrev E0 : XK := fun _ _ _ => False
theorem pass0 {X : Cx} : Passes CX0 X E0 := fun _ _ _ _ _ _ _ h => h.elim

/-! ### a def (or method) of the text as it stands behind the top -/
structure Fun (K : PySem.W.Frag) (x qual : Str) (st : Stmt) (f : Addr) (fd : FuncData) : Prop where
  ex : ∃ (oc : Value) (od : Option Addr) (kV doc pm : Value) (an : Option Addr) (cdv ct : Value) (osl : Array (Option Value)),
    fd = PySem.W.fnOf x qual (defArgs st) (defBody st) (defScope st) .none kV doc pm an cdv ct ∧ K.lookup f = some ⟨oc, od, .func fd, osl⟩ ∧ PySem.W.codeIn K cdv qual = true
  kp : PySem.W.keepIn K (.ref f) = true
section
variable {P : Program} {w : World} {K : PySem.W.Frag} {mg : Str → Option Value} {base : Heap}
/-- THE RULE for a def: its body as a term of rules, and the reading of that term -/
theorem Fun.ok {x qual : Str} {st : Stmt} {f : Addr} {fd : FuncData} {N ps : List Str} {k : Nat} {sp : Sp} (F : Fun K x qual st f fd) (S : FnScope N ps (defScope st)) (len : ∀ vs H Q E, sp vs H Q E → vs.length = ps.length)
    (hbody : ∀ (cdv : Value) (A : Around) (outer : List Env) (s : Shared) (H : Hp) (vs : List V) (Q : VK) (E : XK), Room k (A.deeper (envOfC qual (defScope st) s.heap.objs.size f cdv)) → sp vs H Q E →
      ∃ t, PSs (cxOf CX0 P w K mg base N qual (defScope st) f cdv A outer s H E).nox (defBody st) t ∧ t { nx := fun _ H' => Q .non H', rt := Q } (start N vs) H) : FnOk P w K mg base CX0 (k + 1) f fd ps sp := by
  obtain ⟨oc, od, kV, doc, pm, an, cdv, ct, osl, rfl, lk, hcd⟩ := F.ex
  refine fn_of lk hcd S len fun A outer s H vs Q E hr hsp => ?_
  obtain ⟨t, h, q⟩ := hbody cdv A outer s H vs Q E hr hsp
  exact ⟨t, h.nox, q⟩
/-- how its arguments bind (no defaults): h is «fun _ _ _ _ _ _ us hl => match us, hl with | [_, _], _ => rfl», one _ a parameter -/
theorem Fun.binds {x qual : Str} {st : Stmt} {f : Addr} {fd : FuncData} {ps : List Str} (F : Fun K x qual st f fd)
    (h : ∀ (kV doc pm : Value) (an : Option Addr) (cdv ct : Value) (us : List Value), us.length = ps.length → bindArgs (PySem.W.fnOf x qual (defArgs st) (defBody st) (defScope st) .none kV doc pm an cdv ct) ⟨us, []⟩ = pure (ps.zip us)) : Binds K fd ps [] := by
  obtain ⟨oc, od, kV, doc, pm, an, cdv, ct, osl, rfl, lk, hcd⟩ := F.ex
  exact .all (h kV doc pm an cdv ct)
theorem fun_mk {x qual : Str} {st : Stmt} {f : Addr} {oc : Value} {od an : Option Addr} {osl : Array (Option Value)} {kV doc pm cdv ct : Value} (l : K.lookup f = some ⟨oc, od, .func (PySem.W.fnOf x qual (defArgs st) (defBody st) (defScope st) .none kV doc pm an cdv ct), osl⟩)
    (c : PySem.W.codeIn K cdv qual = true) (k : PySem.W.keepIn K (.ref f) = true) : Fun K x qual st f (PySem.W.fnOf x qual (defArgs st) (defBody st) (defScope st) .none kV doc pm an cdv ct) := ⟨⟨oc, od, kV, doc, pm, an, cdv, ct, osl, rfl, l, c⟩, k⟩
end
theorem hu_of {A : Around} {k : Nat} (hr : Room k A) : A.units + 1 < cLine := Nat.lt_of_le_of_lt (Nat.add_le_add_left (by decide : 1 ≤ 64) _) hr.units
theorem small1000 {n : Nat} (h : n ≤ 1000) : n < sizeLine := Nat.lt_of_le_of_lt h (by decide)

/-! ### expressions in short: the name that stands in the i-th slot -/
section
variable {X : Cx}
theorem pv (i : Nat) {x : Str} {pos : Pos} (hN : X.N[i]? = some x := by rfl) (hv : Vis X.env.scope x := by first | exact Or.inl rfl | exact Or.inr (Or.inl rfl) | exact Or.inr (Or.inr rfl)) (hd : (x == ("__debug__" : Str)) = false := by decide)
    (hcd : (x == ("__classdict__" : Str)) = false := by decide) : PE X (.Name x pos) (tVar i) := pe_var hN hv hd hcd
end

/-! ### tests -/
theorem iteF {A B : Prop} (h : B) : if false = true then A else B := by
  rw [if_neg Bool.false_ne_true]
  exact h
theorem iteT {A B : Prop} (h : A) : if true = true then A else B := by
  rw [if_pos rfl]
  exact h
theorem ite2 {c A B : Prop} [Decidable c] (h1 : c → A) (h2 : ¬ c → B) : if c then A else B := by
  by_cases h : c
  · rw [if_pos h]
    exact h1 h
  · rw [if_neg h]
    exact h2 h
theorem iteNS {c A B : Prop} [Decidable c] (hc : c) (h : B) : if (!decide c) = true then A else B := by
  rw [decide_eq_true hc]
  exact iteF h

/-! ### heaps -/
/-- all that was tracked is as it was -/
def Same (H H' : Hp) : Prop := ∀ b o, H b = some o → H' b = some o
theorem Same.refl (H : Hp) : Same H H := fun _ _ h => h
theorem Same.trans {H H1 H2 : Hp} (a : Same H H1) (b : Same H1 H2) : Same H H2 := fun c o h => b c o (a c o h)
theorem Same.free {H H' : Hp} (e : Same H H') {l : Addr} (h : H' l = Option.none) : H l = Option.none := by
  cases q : H l with
  | none => rfl
  | some o =>
    rw [e l o q] at h
    cases h
theorem Same.seq {K : PySem.W.Frag} {H H' : Hp} {a : Addr} {xs : List V} (e : Same H H') (h : SqL K H a xs) : SqL K H' a xs := by
  rcases h with (h | ⟨o, h⟩) | h
  · exact .inl (.inl (e _ _ h))
  · exact .inl (.inr ⟨o, e _ _ h⟩)
  · exact .inr h

end L2

set_option Elab.async false
set_option linter.all false
set_option maxRecDepth 100000
set_option maxHeartbeats 4000000
namespace L2
open PySem PySem.Spec PyProof.Rows

/-! ### closures of a comprehension's block -/
def closL (env : Env) : List (Str × NameKind) → List (Str × Addr) → List (Str × Addr)
  | [], cs => cs
  | (n, k) :: r, cs => if k = NameKind.free then closL env r ((n, (env.cells.lookup n).getD 0) :: cs) else closL env r cs
theorem closureFor_eq {scope : Scope} {env : Env} (h : ∀ x ∈ scope.names, x.2 = .free → ∃ c, env.cells.lookup x.1 = some c) :
    closureFor scope env = pure (closL env scope.names []) := by
  have all : ∀ (l : List (Str × NameKind)) (cs : List (Str × Addr)), (∀ x ∈ l, x.2 = .free → ∃ c, env.cells.lookup x.1 = some c) →
      (forIn l cs (fun (x : Str × NameKind) (cs : List (Str × Addr)) => if (x.2 == NameKind.free) = true then (do let a ← cellOf env x.1; pure (ForInStep.yield ((x.1, a) :: cs))) else pure (ForInStep.yield cs)) : Sem (List (Str × Addr))) = pure (closL env l cs) := by
    intro l
    induction l with
    | nil => intro cs _; rfl
    | cons x l ih =>
      intro cs hx
      obtain ⟨n, k⟩ := x
      rw [List.forIn_cons]
      have hr := fun cs => ih cs (fun y hy => hx y (List.mem_cons_of_mem _ hy))
      by_cases hk : k = .free
      · subst hk
        obtain ⟨c, hc⟩ := hx (n, .free) List.mem_cons_self rfl
        have e : cellOf env n = pure c := by unfold cellOf; simp only [hc]
        simp only [beq_self_eq_true, if_true, e, pure_bind, hr, closL, hc, Option.getD_some]
      · have hb : (k == NameKind.free) = false := by simpa using hk
        simp only [hb, Bool.false_eq_true, if_false, pure_bind, hr, closL, hk]
  have := all scope.names [] h
  simp only [closureFor]
  rw [← bind_pure (pure (closL env scope.names []) : Sem _), ← this]
theorem closL_mem {env : Env} : ∀ (l : List (Str × NameKind)) (cs : List (Str × Addr)), (∀ x ∈ l, x.2 = .free → ∃ c, env.cells.lookup x.1 = some c) →
    (∀ p ∈ cs, env.cells.lookup p.1 = some p.2) → ∀ p ∈ closL env l cs, env.cells.lookup p.1 = some p.2
  | [], cs, _, h => h
  | (n, k) :: r, cs, hx, h => by
    have hr : ∀ x ∈ r, x.2 = .free → ∃ c, env.cells.lookup x.1 = some c := fun y hy => hx y (List.mem_cons_of_mem _ hy)
    by_cases hk : k = .free
    · subst hk
      obtain ⟨c, hc⟩ := hx (n, .free) List.mem_cons_self rfl
      simp only [closL, if_true]
      refine closL_mem r _ hr fun p hp => ?_
      rcases List.mem_cons.mp hp with e | hp
      · subst e; simp only [hc, Option.getD_some]
      · exact h p hp
    · simp only [closL, hk, if_false]
      exact closL_mem r cs hr h
theorem closL_has {env : Env} : ∀ (l : List (Str × NameKind)) (cs : List (Str × Addr)) (x : Str), ((x, NameKind.free) ∈ l ∨ ∃ c, (x, c) ∈ cs) → ∃ c, (x, c) ∈ closL env l cs
  | [], cs, x, h => by
    rcases h with h | h
    · cases h
    · exact h
  | (n, k) :: r, cs, x, h => by
    by_cases hk : k = .free
    · subst hk
      simp only [closL, if_true]
      refine closL_has r _ x ?_
      rcases h with h | ⟨c, h⟩
      · rcases List.mem_cons.mp h with e | h
        · cases e; exact .inr ⟨_, List.mem_cons_self⟩
        · exact .inl h
      · exact .inr ⟨c, List.mem_cons_of_mem _ h⟩
    · simp only [closL, hk, if_false]
      refine closL_has r cs x ?_
      rcases h with h | h
      · rcases List.mem_cons.mp h with e | h
        · cases e; exact absurd rfl hk
        · exact .inl h
      · exact .inr h
theorem lookup_has {β : Type} : ∀ {l : List (Str × β)} {x : Str} {c : β}, (x, c) ∈ l → ∃ d, l.lookup x = some d
  | [], _, _, h => by cases h
  | (n, b) :: r, x, c, h => by
    rw [List.lookup_cons]
    cases e : x == n with
    | true => exact ⟨b, rfl⟩
    | false =>
      rcases List.mem_cons.mp h with z | h
      · cases z; simp at e
      · exact lookup_has h

/-! ### the names of a comprehension's block: its own (local), the outer ones that it reads (free) -/
structure CompSc (own outs : List Str) (sc osc : Scope) : Prop where
  kind : sc.kind = .function
  nocell : ∀ x ∈ sc.names, x.2 ≠ .cell
  free : ∀ x ∈ sc.names, x.2 = .free → osc.names.lookup x.1 = some .cell ∨ osc.names.lookup x.1 = some .free
  loc : ∀ x ∈ sc.names, x.2 = .local → sc.names.lookup x.1 = some .local
  out : ∀ x ∈ outs, sc.names.lookup x = some .free
  nd : (own ++ outs).Nodup
theorem relabel_kind (sc : Scope) (env : Env) : (relabel sc env).kind = sc.kind := rfl
theorem relabel_free {env : Env} : ∀ {names : List (Str × NameKind)} {x : Str}, names.lookup x = some .free →
    ((names.map fun (n, k) => if (k == NameKind.free && env.scope.kind == .function && env.kindOf n == some .cell) then (n, NameKind.cell) else (n, k)).lookup x = some .cell ∨
      (names.map fun (n, k) => if (k == NameKind.free && env.scope.kind == .function && env.kindOf n == some .cell) then (n, NameKind.cell) else (n, k)).lookup x = some .free)
  | [], _, h => by simp at h
  | (n, k) :: r, x, h => by
    have ih := @relabel_free env r x
    rw [List.map_cons]
    by_cases hc : (k == NameKind.free && env.scope.kind == .function && env.kindOf n == some .cell) = true
    · rw [show (match ((n, k) : Str × NameKind) with | (n, k) => if (k == NameKind.free && env.scope.kind == .function && env.kindOf n == some .cell) then (n, NameKind.cell) else (n, k)) = (n, NameKind.cell) from if_pos hc]
      rw [List.lookup_cons] at h ⊢
      cases hx : x == n with
      | true => exact .inl rfl
      | false => rw [hx] at h; exact ih h
    · rw [show (match ((n, k) : Str × NameKind) with | (n, k) => if (k == NameKind.free && env.scope.kind == .function && env.kindOf n == some .cell) then (n, NameKind.cell) else (n, k)) = (n, k) from if_neg hc]
      rw [List.lookup_cons] at h ⊢
      cases hx : x == n with
      | true => rw [hx] at h; exact .inr h
      | false => rw [hx] at h; exact ih h
theorem relabel_mem {env : Env} : ∀ {names : List (Str × NameKind)} {x : Str} {k : NameKind}, k = .cell ∨ k = .free → (∀ y ∈ names, y.2 ≠ .cell) →
    (names.map fun (n, k) => if (k == NameKind.free && env.scope.kind == .function && env.kindOf n == some .cell) then (n, NameKind.cell) else (n, k)).lookup x = some k → (x, NameKind.free) ∈ names
  | [], _, _, _, _, h => by simp at h
  | (n, j) :: r, x, k, hk, hn, h => by
    have ih := @relabel_mem env r x k hk fun y hy => hn y (List.mem_cons_of_mem _ hy)
    rw [List.map_cons] at h
    by_cases hc : (j == NameKind.free && env.scope.kind == .function && env.kindOf n == some .cell) = true
    · rw [show (match ((n, j) : Str × NameKind) with | (n, k) => if (k == NameKind.free && env.scope.kind == .function && env.kindOf n == some .cell) then (n, NameKind.cell) else (n, k)) = (n, NameKind.cell) from if_pos hc] at h
      rw [List.lookup_cons] at h
      cases hx : x == n with
      | true =>
        have e : x = n := by simpa using hx
        have ej : j = .free := by
          simp only [Bool.and_eq_true, beq_iff_eq] at hc
          exact hc.1.1
        subst e ej
        exact List.mem_cons_self
      | false => rw [hx] at h; exact List.mem_cons_of_mem _ (ih h)
    · rw [show (match ((n, j) : Str × NameKind) with | (n, k) => if (k == NameKind.free && env.scope.kind == .function && env.kindOf n == some .cell) then (n, NameKind.cell) else (n, k)) = (n, j) from if_neg hc] at h
      rw [List.lookup_cons] at h
      cases hx : x == n with
      | true =>
        rw [hx] at h
        have e : x = n := by simpa using hx
        have ej : j = k := Option.some.inj h
        subst e ej
        rcases hk with hk | hk
        · exact absurd hk (hn _ List.mem_cons_self)
        · subst hk; exact List.mem_cons_self
      | false => rw [hx] at h; exact List.mem_cons_of_mem _ (ih h)

/-! ### the block's context -/
def cxC (X : Cx) (own outs : List Str) (scope : Scope) (C : Addr) (s2 : Shared) (H2 : Hp) (fp : List Addr) (pins : List (Addr × Obj)) : Cx where
  prog := X.prog
  w := X.w
  K := X.K
  mg := X.mg
  base := X.base
  A := X.A
  N := own ++ outs
  s₀ := s2
  H₀ := H2
  env := compEnvC scope (closL X.env scope.names []) C X.env
  outer := X.stack
  stack := X.stack
  ex := fp
  fn := fun _ => false
  calm := X.calm
  pn := X.pn ++ pins
  xe := fun _ _ => False

/-- the tests of a comprehension's clause -/
def PFs (X : Cx) (ifs : List Expr) (tt : TT) : Prop :=
  ∀ (pins : List (Addr × Obj)) (s : Shared) (σ : St) (H : Hp) (Q : Bool → Hp → Prop), Inv X pins σ H s → tt σ H Q →
    wpAny (model X.prog X.w) X.A (forIn ifs true fun c r => if r = true then do let ok ← isTrue c X.env (eval c X.env); pure (ForInStep.yield ok) else pure (ForInStep.yield r)) (TP X pins σ Q) X.xe s
def tYes : TT := fun _ H Q => Q true H
theorem pf_nil {X : Cx} : PFs X [] tYes := fun _ _ _ H _ I h => wpAny_tests_nil ⟨H, I, h⟩
theorem pf_one {X : Cx} {c : Expr} {tt : TT} (h : PT X c tt) : PFs X [c] tt := fun pins s σ H Q I q => wpAny_tests_one (h pins s σ H Q I q)

/-- the block's names at the begin of a turn: its own are not bound, the outer ones as they stand -/
def startC (k : Nat) (oix : List Nat) (σ : St) : St := List.replicate k none ++ oix.map fun j => (σ[j]?).join
/-- W: what holds by the turn, the items told so far, the heap -/
def tTurns (k : Nat) (oix : List Nat) (g : TG) (tt : TT) (te : TE) (J : It) (σ : St) (H : Hp) (Q : VK) : Prop :=
  ∃ (n : Nat) (W : Nat → List V → Hp → Prop), W 0 [] H ∧ ∀ i ys H2, W i ys H2 →
    (J.stop i H2 ∧ ys.length ≤ sizeLine ∧ ∀ p, H2 p = none → Q (.ref p) (upd H2 p (.lst ys))) ∨
    (J.go i H2 ∧ i < n ∧ ys.length < sizeLine ∧ ∃ N : List V → Hp → Prop, (∀ ys' H', N ys' H' → W (i + 1) ys' H') ∧ ∀ x H3, J.yld i H2 x H3 → g x (startC k oix σ) H3 fun σ4 H4 => σ4.drop k = (startC k oix σ).drop k ∧
      tt σ4 H4 fun b H5 => if b = true then te σ4 H5 fun y H6 => N (ys ++ [y]) H6 else N ys H5)
def tComp (k : Nat) (oix : List Nat) (wi : TI) (g : TG) (tt : TT) (te : TE) : TE := fun σ H Q => wi σ H fun J H1 => tTurns k oix g tt te J σ H1 Q

def lobj (its : List Value) (n : Nat) : Obj := { cls := .type "list", data := .seq its.toArray n }

theorem HOk.track {P : Program} {w : World} {H : Hp} {h : Heap} {a : Addr} {o : HO} (x : HOk P w H h) (hn : H a = none) (new : ObjOk P w (upd H a o) h a o) : HOk P w (upd H a o) h := fun b u e => by
  by_cases hb : b = a
  · subst hb; rw [upd_same] at e; cases e; exact new
  · rw [upd_ne hb] at e
    exact (x b u e).stay (fun c v _ q => q) (fun c q => by rw [upd_ne (ne_of_none q hn)]; exact q) fun c xs q => by rw [upd_ne (ne_of_none q hn)]; exact q

theorem comp_core {X : Cx} {pins : List (Addr × Obj)} {σ : St} {H2 : Hp} {s2 : Shared} {tg elt iter : Expr} {ifs : List Expr} {scope : Scope} {pos : Pos} {J : It} {fp : List Addr} {it : Addr} {tn : Nat → Heap → Prop}
    {own outs : List Str} {oix : List Nat} {g : TG} {tt : TT} {te : TE} {Q : VK} {E : Value → Shared → Prop} {RR : Value → Addr → Result → Shared → Prop}
    (S : CompSc own outs scope X.env.scope) (hox : oix.map (fun j => X.N[j]?) = outs.map some) (hc : X.calm = true)
    (hg : ∀ C s2 H2 fp pins, PG (cxC X own outs scope C s2 H2 fp pins) tg g)
    (ht : ∀ C s2 H2 fp pins, PFs (cxC X own outs scope C s2 H2 fp pins) ifs tt)
    (he : ∀ C s2 H2 fp pins, PE (cxC X own outs scope C s2 H2 fp pins) elt te)
    (I2 : Inv X pins σ H2 s2) (T : Turn X.prog X.w X.K tg J fp it tn) (st : tn 0 s2.heap) (f2 : ∀ b ∈ fp, FpOk X pins H2 b)
    (h : tTurns own.length oix g tt te J σ H2 Q)
    (hRR : ∀ (C : Addr) (s' : Shared) (m : Str → Option Value) (H' : Hp), s'.heap.Ns C m → Inv X pins σ H' s' → H' C = none → C ≠ X.env.locals → X.s₀.heap.objs.size ≤ C →
      (∀ x c, X.env.cells.lookup x = some c → c ≠ C) → (∀ p ∈ X.pn ++ pins, p.1 ≠ C) → Q (.ref s2.heap.objs.size) H' → RR (.ref s2.heap.objs.size) C (.ok .next) s') :
    wpAny (model X.prog X.w) X.A (newList []) (fun acc s₃ => wpAny (model X.prog X.w) X.A (newFunctionEnv scope X.env.globals (closL X.env scope.names []) [] X.env.qual none .none (some X.env)) (fun cenv s₄ =>
      codeAny (model X.prog X.w) X.A (.compStart (.ListComp elt [⟨tg, iter, ifs, 0⟩] scope pos) 0 (.ref it) acc { cenv with scope := relabel scope X.env }) (RR acc cenv.locals) s₄) E s₃) E s2 := by
  obtain ⟨n, W, w0, turn⟩ := h
  refine wpAny_newObj_type (wpAny_newFunctionEnv S.nocell (by intro y hy; simp at hy) (fun h₁ hns₁ hsb₁ => ?_) S.kind)
  dsimp only at hns₁ hsb₁ ⊢
  generalize hP : s2.heap.push { cls := .type "list", dict := none, data := .seq ([] : List Value).toArray } = hp at hns₁ hsb₁ ⊢
  have hC : hp.objs.size = s2.heap.objs.size + 1 := by rw [← hP, Heap.size_push]
  generalize hCC : hp.objs.size = C at hns₁ hsb₁ hC ⊢
  have hDC : s2.heap.objs.size ≠ C := by rw [hC]; exact Nat.ne_of_lt (Nat.lt_succ_self _)
  have hDC' : s2.heap.objs.size < C := by rw [hC]; exact Nat.lt_succ_self _
  have old : ∀ b o, s2.heap.get? b = some o → h₁.get? b = some o := fun b o e =>
    hsb₁.extBut b o (Nat.ne_of_lt (Nat.lt_trans (Heap.lt_size e) hDC')) (Heap.get?_push_of_some _ (hP ▸ Heap.get?_push_of_some _ e))
  have hacc : h₁.get? s2.heap.objs.size = some (lobj [] 0) := hsb₁.extBut _ _ hDC (Heap.get?_push_of_some _ (hP ▸ Heap.get?_push_size _ rfl))
  -- the cells of the closure are cells of the frame
  have hcells : ∀ x ∈ scope.names, x.2 = .free → ∃ c, X.env.cells.lookup x.1 = some c := fun x hx hf => I2.ok.has x.1 (S.free x hx hf)
  have clX : ∀ x c, (closL X.env scope.names []).lookup x = some c → X.env.cells.lookup x = some c := fun x c e =>
    closL_mem scope.names [] hcells (fun p hp => by cases hp) (x, c) (PySem.mem_of_lookup e)
  have clHas : ∀ x, (x, NameKind.free) ∈ scope.names → ∃ c, (closL X.env scope.names []).lookup x = some c := fun x hx => by
    obtain ⟨c, hc⟩ := closL_has (env := X.env) scope.names [] x (.inl hx)
    exact lookup_has hc
  have fpLt : ∀ b ∈ fp, b < s2.heap.objs.size := fun b hb => by
    obtain ⟨o, e, _⟩ := T.obj 0 _ st b hb
    exact Heap.lt_size e
  have cLt : ∀ x c, X.env.cells.lookup x = some c → c < s2.heap.objs.size := fun x c e => by
    obtain ⟨v, q⟩ := I2.cell x c e
    exact q.lt
  have fpStk : ∀ b ∈ fp, b ∉ frs X.stack := fun b hb z => by
    rcases List.mem_cons.mp (I2.stkSub b z) with e | z
    · exact (f2 b hb).2.1 e
    · exact (f2 b hb).2.2.1 z
  have pinLt : ∀ p ∈ X.pn ++ pins, p.1 < s2.heap.objs.size := fun p hp => Heap.lt_size (I2.pin p hp).1
  have pinStk : ∀ p ∈ X.pn ++ pins, p.1 ∉ frs X.stack := fun p hp z => by
    rcases List.mem_cons.mp (I2.stkSub _ z) with e | z
    · exact (I2.pin p hp).2.2.1 e
    · exact (I2.pin p hp).2.2.2.1 z
  have fsLt : ∀ b ∈ frs X.stack, b < s2.heap.objs.size := fun b hb => by
    obtain ⟨_, o, ho, _⟩ := I2.stack.mem hb
    exact Heap.lt_size ho
  let Y : Cx := cxC X own outs scope C s2 H2 fp pins
  have okY : Y.Ok := {
    mod := I2.ok.mod
    kind := S.kind
    glob := I2.ok.glob
    blt := I2.ok.blt
    above := Nat.le_of_lt hDC'
    inj := fun x y c h1 h2 => I2.ok.inj x y c (clX x c h1) (clX y c h2)
    has := fun x hx => by
      refine clHas x ?_
      rcases hx with hx | hx
      · exact relabel_mem (env := X.env) (.inl rfl) S.nocell hx
      · exact relabel_mem (env := X.env) (.inr rfl) S.nocell hx
    cab := fun x c hf _ => absurd (show false = true from hf) Bool.false_ne_true
    hd := I2.ok.hd
    frames := I2.ok.frames
    stk := .inl rfl
    exf := fun b hb => ⟨Nat.ne_of_lt (Nat.lt_trans (fpLt b hb) hDC'), fun x c e => (f2 b hb).2.2.2.2.1 x c (clX x c e)⟩
    bs := I2.bs
    bsz := Nat.le_trans I2.ok.bsz I2.sz
    noex := fun b o e hb => by
      rcases (f2 b hb).2.2.2.1 with z | z
      · exact I2.ok.noex b o e z
      · exact absurd (Nat.lt_of_lt_of_le (Heap.lt_size e) (Nat.le_trans I2.ok.bsz z)) (Nat.lt_irrefl _)
    exfs := fpStk
    funs := I2.stack
    frf := I2.stkFree }
  have hCH : ∀ H' : Hp, HOk X.prog X.w H' h₁ → True := fun _ _ => trivial
  have lenS : (startC own.length oix σ).length = Y.N.length := by
    have e := congrArg List.length hox
    simp only [List.length_map] at e
    show (List.replicate own.length none ++ oix.map _).length = (own ++ outs).length
    rw [List.length_append, List.length_append, List.length_replicate, List.length_map, e]
  have I4 : Inv Y [(s2.heap.objs.size, lobj [] 0)] (startC own.length oix σ) H2 { s2 with heap := h₁ } := {
    ok := okY
    os := rfl
    bare := I2.bare
    base := Un.kept old
    loc := by
      refine ⟨_, hns₁, fun i x v e1 e2 e3 => ?_⟩
      -- an outer name
      have hi : own.length ≤ i := by
        apply Nat.le_of_not_lt
        intro hlt
        unfold startC at e2
        rw [List.getElem?_append_left (by rw [List.length_replicate]; exact hlt), List.getElem?_replicate] at e2
        rw [if_pos hlt] at e2
        cases e2
      unfold startC at e2
      rw [List.getElem?_append_right (by rw [List.length_replicate]; exact hi), List.length_replicate, List.getElem?_map] at e2
      have e1' : outs[i - own.length]? = some x := by
        have e1 : (own ++ outs)[i]? = some x := e1
        rwa [List.getElem?_append_right hi] at e1
      cases ej : oix[i - own.length]? with
      | none => rw [ej] at e2; cases e2
      | some j =>
        rw [ej] at e2
        have e2' : (σ[j]?).join = some v := Option.some.inj e2
        have e2'' : σ[j]? = some (some v) := by
          cases eσ : σ[j]? with
          | none => rw [eσ] at e2'; cases e2'
          | some z => rw [eσ] at e2'; exact congrArg some e2'
        have eN : X.N[j]? = some x := by
          have q := congrArg (fun l => l[i - own.length]?) hox
          simp only [List.getElem?_map, ej, e1', Option.map_some] at q
          exact Option.some.inj q
        have hfree : scope.names.lookup x = some .free := S.out x (List.mem_of_getElem? e1')
        have hmem : (x, NameKind.free) ∈ scope.names := PySem.mem_of_lookup hfree
        have hk : X.env.scope.names.lookup x = some .cell ∨ X.env.scope.names.lookup x = some .free := S.free (x, .free) hmem rfl
        obtain ⟨m, hn, hl⟩ := I2.loc
        obtain ⟨u, r, l⟩ := hl j x v eN e2'' (by rcases hk with hk | hk; exact .inr (.inl hk); exact .inr (.inr hk))
        refine ⟨u, r, .inr ⟨relabel_free (env := X.env) hfree, ?_⟩⟩
        obtain ⟨c, ec⟩ := clHas x hmem
        refine ⟨c, ec, ?_⟩
        have ec' := clX x c ec
        rcases l with ⟨k, _⟩ | ⟨_, c', e', o, ho, hd⟩
        · rcases hk with hk | hk
          · exact absurd (k.symm.trans hk) (by decide)
          · exact absurd (k.symm.trans hk) (by decide)
        · rw [ec'] at e'
          cases e'
          exact ⟨o, old _ _ ho, hd⟩
    cell := fun x c e => by
      obtain ⟨v, o, ho, hd⟩ := I2.cell x c (clX x c e)
      exact ⟨v, o, old _ _ ho, hd⟩
    free := I2.hok.fresh (Nat.le_of_lt hDC')
    freeC := fun x c e => I2.freeC x c (clX x c e)
    pin := fun p hp => by
      rcases List.mem_append.mp hp with hp | hp
      · obtain ⟨e, n, _, _, d⟩ := I2.pin p hp
        exact ⟨old _ _ e, n, Nat.ne_of_lt (Nat.lt_trans (pinLt p hp) hDC'), pinStk p hp, d⟩
      · have e : p = (s2.heap.objs.size, lobj [] 0) := by simpa using hp
        subst e
        refine ⟨hacc, I2.hok.fresh (Nat.le_refl _), hDC, fun z => absurd (fsLt _ z) (Nat.lt_irrefl _), fun v z => ?_⟩
        have z' : Data.seq _ _ = Data.cell v := z
        cases z'
    hok := I2.hok.kept old
    len := lenS }
  -- what stays of the iterator's records
  have fpY : ∀ {H' : Hp} {its : List Value} {k : Nat}, (∀ b ∈ fp, H' b = none) → ∀ b ∈ fp, FpOk Y [(s2.heap.objs.size, lobj its k)] H' b := fun {H' its k} hn b hb => by
    refine ⟨hn b hb, Nat.ne_of_lt (Nat.lt_trans (fpLt b hb) hDC'), fpStk b hb, .inl hb, fun x c e => (f2 b hb).2.2.2.2.1 x c (clX x c e), fun p hp => ?_⟩
    rcases List.mem_append.mp hp with hp | hp
    · exact (f2 b hb).2.2.2.2.2 p hp
    · have e : p = (s2.heap.objs.size, lobj its k) := by simpa using hp
      subst e
      exact Nat.ne_of_gt (fpLt b hb)
  -- the end
  have fin : ∀ (i : Nat) (ys : List V) (its : List Value) (k : Nat) (H' : Hp) (s' : Shared), Inv Y [(s2.heap.objs.size, lobj its k)] (startC own.length oix σ) H' s' → Vals ys its → ys.length ≤ sizeLine →
      Q (.ref s2.heap.objs.size) (upd H' s2.heap.objs.size (.lst ys)) → RR (.ref s2.heap.objs.size) C (.ok .next) s' := fun i ys its k H' s' I' rv hz q => by
    obtain ⟨m, hn, _⟩ := I'.loc
    obtain ⟨eD, nD, _⟩ := I'.pin (s2.heap.objs.size, lobj its k) (List.mem_append_right _ (by simp))
    have un : Un (frs X.stack) fp H2 H' s2.heap s'.heap := I'.base
    have neD : ∀ b o, s2.heap.get? b = some o → b ≠ s2.heap.objs.size := fun b o e => Nat.ne_of_lt (Heap.lt_size e)
    have neH : ∀ b o, H2 b = some o → b ≠ s2.heap.objs.size := fun b o e => Nat.ne_of_lt (I2.hok.lt e)
    have un' : Un (frs X.stack) fp H2 (upd H' s2.heap.objs.size (.lst ys)) s2.heap s'.heap :=
      ⟨un.keep, un.slot, fun b o e n hx => by rw [upd_ne (neD b o e)]; exact un.free b o e n hx, un.there, fun b xs e => by rw [upd_ne (neH b _ e)]; exact un.tups b xs e,
        fun b o u e => by rw [upd_ne (neH b _ e)]; exact un.frzs b o u e, fun b ps e => by rw [upd_ne (neH b _ e)]; exact un.tbls b ps e⟩
    have hok' : HOk X.prog X.w (upd H' s2.heap.objs.size (.lst ys)) s'.heap := HOk.track I'.hok nD ⟨hz, its, k, rv, eD⟩
    have IX : Inv X pins σ (upd H' s2.heap.objs.size (.lst ys)) s' := I2.call' (ch := fp) I'.os un' hok' I'.bare fun b hb => ⟨(f2 b hb).2.2.2.1, (f2 b hb).2.1, (f2 b hb).2.2.2.2.1, (f2 b hb).2.2.2.2.2⟩
    refine hRR C s' m _ hn IX ?_ ?_ ?_ ?_ ?_ q
    · rw [upd_ne (Ne.symm hDC)]; exact I'.free
    · exact Nat.ne_of_gt (Nat.lt_trans I2.lt hDC')
    · exact Nat.le_trans I2.sz (Nat.le_of_lt hDC')
    · exact fun x c e => Nat.ne_of_lt (Nat.lt_trans (cLt x c e) hDC')
    · exact fun p hp => Nat.ne_of_lt (Nat.lt_trans (pinLt p hp) hDC')
  have loop : codeAny (model X.prog X.w) X.A (.compLoop (.ListComp elt [⟨tg, iter, ifs, 0⟩] scope pos) 0 (.ref it) (.ref s2.heap.objs.size) Y.env) (RR (.ref s2.heap.objs.size) C) { s2 with heap := h₁ } := by
    refine codeAny_loop rfl (fun k s' => ∃ (i : Nat) (ys : List V) (its : List Value) (c : Nat) (H' : Hp), Inv Y [(s2.heap.objs.size, lobj its c)] (startC own.length oix σ) H' s' ∧ Vals ys its ∧ tn i s'.heap ∧ (∀ b ∈ fp, H' b = none) ∧ W i ys H' ∧ k = n - i) (fun k s' hI => ?_) n
      ⟨0, [], [], 0, H2, I4, .nil, T.keep 0 _ _ st fun b _ o e => old b o e, fun b hb => (f2 b hb).1, w0, rfl⟩
    show wpAny _ X.A ((compTurn (.ListComp elt [⟨tg, iter, ifs, 0⟩] scope pos) 0 (.ref it) (.ref s2.heap.objs.size) Y.env).onRaise (fun x => do noteFrame x Y.env; theTreesLotGoes x)) _ _ s'
    refine wpAny_noted ?_
    rw [compTurn_list]
    obtain ⟨i, ys, its, c, H', I', rv, st', fr', w', ek⟩ := hI
    rcases turn i ys H' w' with ⟨stop, hz, q⟩ | ⟨go, hin, hz, N, hN, step⟩
    · refine wpAny_bind (wpAny_standAt (wpAny_bind (thn (T.done Y rfl rfl rfl hc i _ s' _ H' _ I' (fpY fr') st' stop) fun r s1 ⟨hr, I1⟩ => ?_)))
      subst hr
      obtain ⟨_, nD, _⟩ := I1.pin (s2.heap.objs.size, lobj its c) (List.mem_append_right _ (by simp))
      exact wpAny_pure (fin i ys its c H' s1 I1 rv hz (q _ nD))
    · refine wpAny_bind (wpAny_standAt (wpAny_bind (thn (T.item Y rfl rfl rfl hc i _ s' _ H' _ I' (fpY fr') st' go) fun r s1 ⟨u, hr, h1⟩ => ?_)))
      subst hr
      refine wpAny_bind (thn h1 fun _ s5 ⟨x, H5, I5, r5, y5, st5, fr5⟩ => ?_)
      have I5' := I5.pinned (fpY fr5) (T.obj _ _ st5)
      refine wpAny_bind (wpAny_noRaise (thn (hg C s2 H2 fp pins _ s5 _ H5 x u _ I5' r5 (step x H5 y5)) fun _ s6 ⟨σ6, H6, I6, dr6, q6⟩ => ?_))
      refine wpAny_bind (wpAny_noRaise (thn (ht C s2 H2 fp pins _ s6 σ6 H6 _ I6 q6) fun ok s7 ⟨H7, I7, q7⟩ => ?_))
      -- back to the begin of a turn
      have back : ∀ {H8 : Hp} {s8 : Shared} {its8 : List Value} {c8 : Nat}, Inv Y ([(s2.heap.objs.size, lobj its8 c8)] ++ pinsAt fp s5.heap) σ6 H8 s8 →
          Inv Y [(s2.heap.objs.size, lobj its8 c8)] (startC own.length oix σ) H8 s8 ∧ tn (i + 1) s8.heap ∧ ∀ b ∈ fp, H8 b = none := fun {H8 s8 its8 c8} I8 => by
        refine ⟨I8.unpinned.weak ?_ fun j v e => ?_, T.keep _ _ _ st5 fun b hb o e => (I8.pin (b, o) (List.mem_append_right _ (List.mem_append_right _ (mem_pinsAt hb e)))).1, fun b hb => ?_⟩
        · exact lenS.trans I8.len.symm
        · have hj : own.length ≤ j := by
            apply Nat.le_of_not_lt
            intro hlt
            unfold startC at e
            rw [List.getElem?_append_left (by rw [List.length_replicate]; exact hlt), List.getElem?_replicate] at e
            rw [if_pos hlt] at e
            cases e
          have e' := congrArg (fun l => l[j - own.length]?) dr6
          simp only [List.getElem?_drop] at e'
          rw [show own.length + (j - own.length) = j by omega] at e'
          exact e'.trans e
        · obtain ⟨o, e, d⟩ := T.obj _ _ st5 b hb
          exact (I8.pin (b, o) (List.mem_append_right _ (List.mem_append_right _ (mem_pinsAt hb e)))).2.1
      cases ok with
      | false =>
        obtain ⟨I8, st8, fr8⟩ := back I7
        exact wpAny_pure ⟨rfl, n - (i + 1), by omega, i + 1, ys, its, c, H7, I8, rv, st8, fr8, hN _ _ q7, rfl⟩
      | true =>
        refine wpAny_bind (wpAny_bind (wpAny_noRaise (thn (he C s2 H2 fp pins _ s7 σ6 H7 _ I7 q7) fun y s8 ⟨z, H8, I8, r8, w8⟩ => ?_)))
        obtain ⟨eD, nD, neL, nF, dD⟩ := I8.pin (s2.heap.objs.size, lobj its c) (List.mem_append_right _ (List.mem_append_left _ (by simp)))
        have hl := rv.length
        refine wpAny_bind (call_meets F.slot_list_append ⟨_, eD, rfl⟩ F.entry_list_append (F.args_list_append_2 _ _) (PySem.list_append _ its.toArray c y (by rw [List.size_toArray]; omega)) ⟨eD, ?_⟩)
        obtain ⟨n', q⟩ : ∃ n', (s8.heap.update s2.heap.objs.size (Obj.mapSeq (·.push y))).get? s2.heap.objs.size = some (lobj (its ++ [y]) n') := by
          have q := PySem.IsL.update eD (·.push y)
          rw [show its.toArray.push y = (its ++ [y]).toArray by simp] at q
          exact ⟨_, q⟩
        have I9 : Inv Y (pinsAt fp s5.heap) σ6 H8 { s8 with heap := s8.heap.update s2.heap.objs.size (Obj.mapSeq (·.push y)) } :=
          (I8.pins_of fun p hp => I8.pin p (List.mem_append_right _ (List.mem_append_right _ hp))).turned (t' := s8.toks) (it := s2.heap.objs.size) (fun b o hb e => (Heap.get?_update_other _ _ (Ne.symm hb)).trans e) nD hDC (.inr (Nat.le_refl _))
            (fun x c' e => Nat.ne_of_lt (cLt x c' (clX x c' e))) fun p hp => by
              rcases List.mem_append.mp hp with hp | hp
              · exact Nat.ne_of_lt (pinLt p hp)
              · exact Nat.ne_of_lt (fpLt _ (of_pinsAt hp).1)
        have I10 : Inv Y ([(s2.heap.objs.size, lobj (its ++ [y]) n')] ++ pinsAt fp s5.heap) σ6 H8 { s8 with heap := s8.heap.update s2.heap.objs.size (Obj.mapSeq (·.push y)) } := I9.pins_of fun p hp => by
          rcases List.mem_append.mp hp with hp | hp
          · have e : p = (s2.heap.objs.size, lobj (its ++ [y]) n') := by simpa using hp
            subst e
            exact ⟨q, nD, neL, nF, fun v z => by
              have z' : Data.seq _ _ = Data.cell v := z
              cases z'⟩
          · exact I9.pin p (List.mem_append_right _ hp)
        obtain ⟨I11, st11, fr11⟩ := back I10
        exact wpAny_pure (wpAny_pure ⟨rfl, n - (i + 1), by omega, i + 1, ys ++ [z], its ++ [y], _, H8, I11, rv.append (.cons r8 .nil), st11, fr11, hN _ _ w8, rfl⟩)
  exact codeAny_compStart_list loop (T.self _ 0 _ _ _ (T.keep 0 _ _ st fun b _ o e => old b o e) loop)

section
variable {X : Cx} {tg elt iter : Expr} {ifs : List Expr} {scope : Scope} {pos : Pos} {oix : List Nat} {wi : TI} {g : TG} {tt : TT} {te : TE}
/-- [elt for tg in iter if ..], as a value: own its own names, outs the outer ones that it reads (their slots oix) -/
theorem pe_comp (own outs : List Str) (oix : List Nat) (S : CompSc own outs scope X.env.scope) (hox : oix.map (fun j => X.N[j]?) = outs.map some) (hc : X.calm = true) (hi : PI X tg iter wi)
    (hg : ∀ C s2 H2 fp pins, PG (cxC X own outs scope C s2 H2 fp pins) tg g)
    (ht : ∀ C s2 H2 fp pins, PFs (cxC X own outs scope C s2 H2 fp pins) ifs tt)
    (he : ∀ C s2 H2 fp pins, PE (cxC X own outs scope C s2 H2 fp pins) elt te)
    (hs : ∀ x, foldedSetIterable iter X.env x = pure x := by intro _; rfl) :
    PE X (.ListComp elt [⟨tg, iter, ifs, 0⟩] scope pos) (tComp own.length oix wi g tt te) := by
  intro pins s σ H Q I h
  rw [eval_ListComp]
  refine wpAny_comprehension_free (use := none) rfl hs (closureFor_eq fun x hx hf => I.ok.has x.1 (S.free x hx hf)) S.kind S.loc (thn (hi pins s σ H _ I h) fun xv s₁ h₁ => thn h₁ fun itv s₂ h₂ => ?_)
  obtain ⟨it, fp, tn, J, H2, e, I2, T, st2, f2, turns⟩ := h₂
  subst e
  refine comp_core (RR := fun acc C => compPost (model X.prog X.w) X.A X.xe none (EP X pins σ Q) acc C) S hox hc hg ht he I2 T st2 f2 turns ?_
  intro C s' m H' hn I' hC hL h0 hcell hpin q
  exact ⟨m, hn, fun h' hs' => ⟨.ref _, H', I'.turned (h' := h') (t' := s'.toks) (it := C) (fun b o hb e => hs'.extBut b o hb e) hC hL (.inr h0) hcell hpin, rfl, q⟩⟩
/-- name = [elt for ..], where the store and the block's end are exchanged -/
theorem ps_setComp (own outs : List Str) (oix : List Nat) {i : Nat} {x : Str} {pos' spos : Pos} (S : CompSc own outs scope X.env.scope) (hox : oix.map (fun j => X.N[j]?) = outs.map some) (hc : X.calm = true)
    (hN : X.N.Nodup) (hix : X.N[i]? = some x) (hx : X.env.scope.names.lookup x = some .local) (hi : PI X tg iter wi)
    (hg : ∀ C s2 H2 fp pins, PG (cxC X own outs scope C s2 H2 fp pins) tg g)
    (ht : ∀ C s2 H2 fp pins, PFs (cxC X own outs scope C s2 H2 fp pins) ifs tt)
    (he : ∀ C s2 H2 fp pins, PE (cxC X own outs scope C s2 H2 fp pins) elt te)
    (hsw : swapsWith (.ListComp elt [⟨tg, iter, ifs, 0⟩] scope pos) (some (.Name x pos')) spos.line X.env = pure true := by rfl)
    (hs : ∀ x, foldedSetIterable iter X.env x = pure x := by intro _; rfl) :
    PS X (.Assign [.Name x pos'] (.ListComp elt [⟨tg, iter, ifs, 0⟩] scope pos) spos) (tAsg (tComp own.length oix wi g tt te) (gName i)) := by
  intro pins s σ H D I h
  rw [exec_Assign_Name_used _ _ _ _ hsw]
  refine wpAny_bind (wpAny_standAt (wpAny_bind ?_))
  show wpAny _ X.A (do let _ ← comprehension (.ListComp elt [⟨tg, iter, ifs, 0⟩] scope pos) scope X.env _ (newList []) false (eval iter X.env) (some (assign (.Name x pos') X.env))) _ _ s
  refine wpAny_bind (wpAny_mono (wpAny_comprehension_free (use := some (assign (.Name x pos') X.env)) (Q := fun _ s' => SP X pins D .next s') rfl hs (closureFor_eq fun y hy hf => I.ok.has y.1 (S.free y hy hf)) S.kind S.loc
    (thn (hi pins s σ H _ I h) fun xv s₁ h₁ => thn h₁ fun itv s₂ h₂ => ?_)) (fun _ s' hq => wpAny_pure (wpAny_pure hq)) fun _ _ e => e)
  obtain ⟨it, fp, tn, J, H2, e, I2, T, st2, f2, turns⟩ := h₂
  subst e
  refine comp_core (RR := fun acc C => compPost (model X.prog X.w) X.A X.xe (some (assign (.Name x pos') X.env)) (fun _ s' => SP X pins D .next s') acc C) S hox hc hg ht he I2 T st2 f2 turns ?_
  intro C s' m H' hn I' hC hL h0 hcell hpin q
  show wpAny _ X.A (assign (.Name x pos') X.env (.ref s₂.heap.objs.size)) _ _ s'
  refine wpAny_assign_Name (store_ok2 (v := .ref s₂.heap.objs.size) I' hN hix (.inl hx) rfl (fun s'' I'' hsb => ?_) (.inr hx))
  obtain ⟨a, hsb, ha⟩ := hsb
  have hCa : C ≠ a := by
    rcases ha with e | e
    · rw [e]; exact hL
    · exact Ne.symm (hcell _ _ e)
  exact ⟨m, hn.sameBut hsb hCa, fun h' hs' => ⟨_, H', I''.turned (h' := h') (t' := s''.toks) (it := C) (fun b o hb e => hs'.extBut b o hb e) hC hL (.inr h0) hcell hpin, q⟩⟩
end

/-! ### the forms one uses -/
section
variable {K : PySem.W.Frag} {k : Nat} {oix : List Nat} {g : TG} {tt : TT} {te : TE} {σ : St} {H : Hp} {Q : VK}
theorem turns_list {a : Addr} {xs : List V} (W : Nat → List V → Hp → Prop) (h0 : W 0 [] H) (hz : xs.length ≤ sizeLine) (hl : ∀ i ys H, i ≤ xs.length → W i ys H → SqL K H a xs ∧ ys.length ≤ i)
    (hs : ∀ i x ys H, xs[i]? = some x → W i ys H → g x (startC k oix σ) H fun σ4 H4 => σ4.drop k = (startC k oix σ).drop k ∧ tt σ4 H4 fun b H5 => if b = true then te σ4 H5 fun y H6 => W (i + 1) (ys ++ [y]) H6 else W (i + 1) ys H5)
    (hd : ∀ ys H, W xs.length ys H → ∀ p, H p = none → Q (.ref p) (upd H p (.lst ys))) : tTurns k oix g tt te (Itl K a) σ H Q := by
  refine ⟨xs.length, fun i ys H => i ≤ xs.length ∧ W i ys H, ⟨Nat.zero_le _, h0⟩, fun i ys H2 ⟨hi, w⟩ => ?_⟩
  obtain ⟨q, hy⟩ := hl i ys H2 hi w
  by_cases hlt : i < xs.length
  · refine .inr ⟨⟨xs, xs[i], q, by simp [hlt]⟩, hlt, by omega, W (i + 1), fun ys' H' w' => ⟨hlt, w'⟩, fun x H3 y => ?_⟩
    obtain ⟨e, y⟩ := y
    subst e
    exact hs i x ys _ (y xs q) w
  · have e : i = xs.length := by omega
    subst e
    exact .inl ⟨⟨xs, q, Nat.le_refl _⟩, by omega, hd ys H2 w⟩
theorem turns_tup {a : Addr} {xs : List V} (W : Nat → List V → Hp → Prop) (h0 : W 0 [] H) (hz : xs.length ≤ sizeLine) (hl : ∀ i ys H, i ≤ xs.length → W i ys H → SqT K H a xs ∧ ys.length ≤ i)
    (hs : ∀ i x ys H, xs[i]? = some x → W i ys H → g x (startC k oix σ) H fun σ4 H4 => σ4.drop k = (startC k oix σ).drop k ∧ tt σ4 H4 fun b H5 => if b = true then te σ4 H5 fun y H6 => W (i + 1) (ys ++ [y]) H6 else W (i + 1) ys H5)
    (hd : ∀ ys H, W xs.length ys H → ∀ p, H p = none → Q (.ref p) (upd H p (.lst ys))) : tTurns k oix g tt te (Itt K a) σ H Q := by
  refine ⟨xs.length, fun i ys H => i ≤ xs.length ∧ W i ys H, ⟨Nat.zero_le _, h0⟩, fun i ys H2 ⟨hi, w⟩ => ?_⟩
  obtain ⟨q, hy⟩ := hl i ys H2 hi w
  by_cases hlt : i < xs.length
  · refine .inr ⟨⟨xs, xs[i], q, by simp [hlt]⟩, hlt, by omega, W (i + 1), fun ys' H' w' => ⟨hlt, w'⟩, fun x H3 y => ?_⟩
    obtain ⟨e, y⟩ := y
    subst e
    exact hs i x ys _ (y xs q) w
  · have e : i = xs.length := by omega
    subst e
    exact .inl ⟨⟨xs, q, Nat.le_refl _⟩, by omega, hd ys H2 w⟩
theorem turns_range {lo : Int} {n : Nat} (W : Nat → List V → Hp → Prop) (h0 : W 0 [] H) (hz : n ≤ sizeLine) (hl : ∀ i ys H, i ≤ n → W i ys H → ys.length ≤ i)
    (hs : ∀ i ys H, i < n → W i ys H → g (.int (lo + i)) (startC k oix σ) H fun σ4 H4 => σ4.drop k = (startC k oix σ).drop k ∧ tt σ4 H4 fun b H5 => if b = true then te σ4 H5 fun y H6 => W (i + 1) (ys ++ [y]) H6 else W (i + 1) ys H5)
    (hd : ∀ ys H, W n ys H → ∀ p, H p = none → Q (.ref p) (upd H p (.lst ys))) : tTurns k oix g tt te (Itr lo n) σ H Q := by
  refine ⟨n, fun i ys H => i ≤ n ∧ W i ys H, ⟨Nat.zero_le _, h0⟩, fun i ys H2 ⟨hi, w⟩ => ?_⟩
  have hy := hl i ys H2 hi w
  by_cases hlt : i < n
  · refine .inr ⟨hlt, hlt, by omega, W (i + 1), fun ys' H' w' => ⟨hlt, w'⟩, fun x H3 y => ?_⟩
    obtain ⟨e, y⟩ := y
    subst e y
    exact hs i ys _ hlt w
  · have e : i = n := by omega
    subst e
    exact .inl ⟨Nat.le_refl _, by omega, hd ys H2 w⟩
end

/-! ### the signs of a text -/
def Its (x : Str) : It := ⟨fun i _ => i < x.cps.size, fun i H v H' => H' = H ∧ ∃ c, x.cps[i]? = some c ∧ v = .str ⟨#[c]⟩, fun i _ => x.cps.size ≤ i⟩
theorem turn_ascii {P : Program} {w : World} {K : PySem.W.Frag} {tg : Expr} (it : Addr) (x : Str) (t : Tok) : Turn P w K tg (Its x) [it] it (fun i h => h.IsStrIter it "str_ascii_iterator" x t i) where
  mem := by simp
  obj := fun i h st b hb => by
    have e : b = it := by simpa using hb
    subst e
    obtain ⟨o, e, c, d⟩ := st
    exact ⟨o, e, fun v z => by rw [d] at z; cases z⟩
  keep := fun i h h' st k => by
    obtain ⟨o, e, r⟩ := st
    exact ⟨o, k it (by simp) o e, r⟩
  item := by
    intro X hP hw hK hc i pins s σ H E I hf st hg
    subst hP hw hK
    obtain ⟨f0, f1, f2, f3, f4, f5⟩ := hf it (by simp)
    have hg' : i < x.cps.size := hg
    refine wpAny_pyNext_ascii_item st (c := x.cps[i]) (by simp [hg']) fun h' st' sb => ?_
    have I1 : Inv X pins σ H { s with heap := h', toks := s.toks + 1 } := I.turned (t' := s.toks + 1) (fun b o hb e => (sb.2 b hb).trans e) f0 f1 f3 f4 f5
    obtain ⟨o, e, c, d⟩ := id st'
    exact ⟨_, rfl, go_of (s := { s with heap := h', toks := s.toks + 1 }) e c d (by decide) ⟨.str ⟨#[x.cps[i]]⟩, H, I1, ⟨_, rfl⟩, ⟨rfl, _, by simp [hg'], rfl⟩, st', fun b hb => (hf b hb).1⟩⟩
  done := by
    intro X hP hw hK hc i pins s σ H E I hf st hg
    subst hP hw hK
    obtain ⟨f0, f1, f2, f3, f4, f5⟩ := hf it (by simp)
    have hg' : x.cps.size ≤ i := hg
    exact wpAny_pyNext_ascii_end (I.ok.hd hc) st (by simp [hg']) fun h' eb => ⟨rfl, I.turned (t' := s.toks) (fun b o hb e => eb b o hb e) f0 f1 f3 f4 f5⟩
  self := fun _ _ _ _ _ st h => wpAny_pyIter_striter_ascii st h
theorem turn_wide {P : Program} {w : World} {K : PySem.W.Frag} {tg : Expr} (it : Addr) (x : Str) (t : Tok) : Turn P w K tg (Its x) [it] it (fun i h => h.IsStrIter it "str_iterator" x t i) where
  mem := by simp
  obj := fun i h st b hb => by
    have e : b = it := by simpa using hb
    subst e
    obtain ⟨o, e, c, d⟩ := st
    exact ⟨o, e, fun v z => by rw [d] at z; cases z⟩
  keep := fun i h h' st k => by
    obtain ⟨o, e, r⟩ := st
    exact ⟨o, k it (by simp) o e, r⟩
  item := by
    intro X hP hw hK hc i pins s σ H E I hf st hg
    subst hP hw hK
    obtain ⟨f0, f1, f2, f3, f4, f5⟩ := hf it (by simp)
    have hg' : i < x.cps.size := hg
    refine wpAny_pyNext_wide_item st (c := x.cps[i]) (by simp [hg']) fun h' st' sb => ?_
    have I1 : Inv X pins σ H { s with heap := h', toks := s.toks + 1 } := I.turned (t' := s.toks + 1) (fun b o hb e => (sb.2 b hb).trans e) f0 f1 f3 f4 f5
    obtain ⟨o, e, c, d⟩ := id st'
    exact ⟨_, rfl, go_of (s := { s with heap := h', toks := s.toks + 1 }) e c d (by decide) ⟨.str ⟨#[x.cps[i]]⟩, H, I1, ⟨_, rfl⟩, ⟨rfl, _, by simp [hg'], rfl⟩, st', fun b hb => (hf b hb).1⟩⟩
  done := by
    intro X hP hw hK hc i pins s σ H E I hf st hg
    subst hP hw hK
    obtain ⟨f0, f1, f2, f3, f4, f5⟩ := hf it (by simp)
    have hg' : x.cps.size ≤ i := hg
    exact wpAny_pyNext_wide_end (I.ok.hd hc) st (by simp [hg']) fun h' eb => ⟨rfl, I.turned (t' := s.toks) (fun b o hb e => eb b o hb e) f0 f1 f3 f4 f5⟩
  self := fun _ _ _ _ _ st h => wpAny_pyIter_striter_wide st h
section
variable {X : Cx} {tg : Expr}
def iStr (tl : TE) : TI := fun σ H R => tl σ H fun v H1 => ∃ x, v = .str x ∧ R (Its x) H1
theorem pi_str {l : Expr} {tl : TE} (hl : PE X l tl) : PI X tg l (iStr tl) := by
  intro pins s σ H R I h
  refine thn (hl pins s σ H _ I h) fun v s1 ⟨y, H1, I1, r1, q1⟩ => ?_
  obtain ⟨x, e, q⟩ := q1
  subst e
  obtain ⟨t, rfl⟩ := r1
  have fp : ∀ {o : Obj} (b : Addr), b ∈ [s1.heap.objs.size] → FpOk X pins H1 b := fun {o} b hb => by
    have e : b = s1.heap.objs.size := by simpa using hb
    subst e
    exact I1.fpOk (Nat.le_refl _) (I1.hok.fresh (Nat.le_refl _))
  cases ha : x.cps.all (· < 128)
  · exact wpAny_pyIter_wide ha ⟨s1.heap.objs.size, [s1.heap.objs.size], _, _, H1, rfl, I1.kept (t' := s1.toks) fun b o e => Heap.get?_push_of_some _ e, turn_wide _ x t, ⟨_, Heap.get?_push_size _ rfl, rfl, rfl⟩, fp (o := default), q⟩
  · exact wpAny_pyIter_ascii ha ⟨s1.heap.objs.size, [s1.heap.objs.size], _, _, H1, rfl, I1.kept (t' := s1.toks) fun b o e => Heap.get?_push_of_some _ e, turn_ascii _ x t, ⟨_, Heap.get?_push_size _ rfl, rfl, rfl⟩, fp (o := default), q⟩
end
theorem for_str {x : Str} {g : TG} {tb : TS} {D : Ends} {σ : St} {H : Hp} (Pv : Nat → St → Hp → Prop) (h0 : Pv 0 σ H)
    (hs : ∀ i c σ H, x.cps[i]? = some c → Pv i σ H → g (.str ⟨#[c]⟩) σ H fun σ2 H2 => tb { D with nx := Pv (i + 1), ct := Pv (i + 1), bk := D.nx } σ2 H2) (hd : ∀ σ H, Pv x.cps.size σ H → D.nx σ H) :
    ∃ W : Nat → Nat → St → Hp → Prop, (∃ m, W 0 m σ H) ∧ ∀ i m σ H, W i m σ H →
      ((Its x).stop i H ∧ D.nx σ H) ∨ ((Its x).go i H ∧ ∃ N : St → Hp → Prop, (∀ σ' H', N σ' H' → ∃ m', m' < m ∧ W (i + 1) m' σ' H') ∧ ∀ v H', (Its x).yld i H v H' → g v σ H' fun σ2 H2 => tb { D with nx := N, ct := N, bk := D.nx } σ2 H2) := by
  refine ⟨fun i m σ H => m = x.cps.size - i ∧ i ≤ x.cps.size ∧ Pv i σ H, ⟨x.cps.size, by simp, Nat.zero_le _, h0⟩, ?_⟩
  rintro i m σ H ⟨rfl, hi, p⟩
  by_cases hlt : i < x.cps.size
  · refine .inr ⟨hlt, Pv (i + 1), fun σ' H' p' => ⟨x.cps.size - (i + 1), by omega, rfl, hlt, p'⟩, fun v H' y => ?_⟩
    obtain ⟨e, c, hc, y⟩ := y
    subst e y
    exact hs i c σ _ hc p
  · have e : i = x.cps.size := by omega
    subst e
    exact .inl ⟨Nat.le_refl _, hd σ H p⟩
theorem turns_str {k : Nat} {oix : List Nat} {g : TG} {tt : TT} {te : TE} {σ : St} {H : Hp} {Q : VK} {x : Str} (W : Nat → List V → Hp → Prop) (h0 : W 0 [] H) (hz : x.cps.size ≤ sizeLine) (hl : ∀ i ys H, i ≤ x.cps.size → W i ys H → ys.length ≤ i)
    (hs : ∀ i c ys H, x.cps[i]? = some c → W i ys H → g (.str ⟨#[c]⟩) (startC k oix σ) H fun σ4 H4 => σ4.drop k = (startC k oix σ).drop k ∧ tt σ4 H4 fun b H5 => if b = true then te σ4 H5 fun y H6 => W (i + 1) (ys ++ [y]) H6 else W (i + 1) ys H5)
    (hd : ∀ ys H, W x.cps.size ys H → ∀ p, H p = none → Q (.ref p) (upd H p (.lst ys))) : tTurns k oix g tt te (Its x) σ H Q := by
  refine ⟨x.cps.size, fun i ys H => i ≤ x.cps.size ∧ W i ys H, ⟨Nat.zero_le _, h0⟩, fun i ys H2 ⟨hi, w⟩ => ?_⟩
  have hy := hl i ys H2 hi w
  by_cases hlt : i < x.cps.size
  · refine .inr ⟨hlt, hlt, by omega, W (i + 1), fun ys' H' w' => ⟨hlt, w'⟩, fun v H3 y => ?_⟩
    obtain ⟨e, c, hc, y⟩ := y
    subst e y
    exact hs i c ys _ hc w
  · have e : i = x.cps.size := by omega
    subst e
    exact .inl ⟨Nat.le_refl _, by omega, hd ys H2 w⟩
end L2

set_option Elab.async false
set_option linter.all false
set_option maxRecDepth 100000
set_option maxHeartbeats 4000000
namespace L2
open PySem PySem.Spec PyProof.Rows

/-! ### isinstance(x, T), T a built-in type -/
def rIsI (K : PySem.W.Frag) : List V → Hp → VK → Prop := fun xs H Q => ∃ x n t b, xs = [x, .ty n] ∧ TyOf K H x t ∧ PySem.W.kitOne K t (.type n) = some b ∧ Q (.bl b) H
section
variable {X : Cx}
theorem call_isinst : CallR X (.builtin "isinstance") (rIsI X.K) := by
  intro pins s σ H xs us Q I r h
  obtain ⟨x, n, t, b, rfl, ty, e, q⟩ := h
  obtain ⟨u, w', rfl, rx, ry⟩ := vals2 r
  cases ry
  exact isinst_ok I rx ty e fun tk => ⟨.bl b, H, I.tok tk, rfl, q⟩
end
theorem kit_eq (K : PySem.W.Frag) (t : Value) : PySem.W.kitOne K t t = some true := by
  unfold PySem.W.kitOne
  rw [if_pos (beq_self_eq_true t)]
theorem kit_bool_int (K : PySem.W.Frag) : PySem.W.kitOne K (.type "bool") (.type "int") = some true := by with_unfolding_all rfl
theorem kit_int_bool (K : PySem.W.Frag) : PySem.W.kitOne K (.type "int") (.type "bool") = some false := by with_unfolding_all rfl
theorem kit_int_str (K : PySem.W.Frag) : PySem.W.kitOne K (.type "int") (.type "str") = some false := by with_unfolding_all rfl
theorem kit_str_int (K : PySem.W.Frag) : PySem.W.kitOne K (.type "str") (.type "int") = some false := by with_unfolding_all rfl
theorem kit_str_bool (K : PySem.W.Frag) : PySem.W.kitOne K (.type "str") (.type "bool") = some false := by with_unfolding_all rfl
theorem kit_none_int (K : PySem.W.Frag) : PySem.W.kitOne K (.type "NoneType") (.type "int") = some false := by with_unfolding_all rfl
theorem kit_none_bool (K : PySem.W.Frag) : PySem.W.kitOne K (.type "NoneType") (.type "bool") = some false := by with_unfolding_all rfl
theorem kit_none_str (K : PySem.W.Frag) : PySem.W.kitOne K (.type "NoneType") (.type "str") = some false := by with_unfolding_all rfl
theorem kit_bool_str (K : PySem.W.Frag) : PySem.W.kitOne K (.type "bool") (.type "str") = some false := by with_unfolding_all rfl
theorem kit_tup_int (K : PySem.W.Frag) : PySem.W.kitOne K (.type "tuple") (.type "int") = some false := by with_unfolding_all rfl
theorem kit_tup_str (K : PySem.W.Frag) : PySem.W.kitOne K (.type "tuple") (.type "str") = some false := by with_unfolding_all rfl
theorem kit_tup_bool (K : PySem.W.Frag) : PySem.W.kitOne K (.type "tuple") (.type "bool") = some false := by with_unfolding_all rfl
theorem kit_lst_int (K : PySem.W.Frag) : PySem.W.kitOne K (.type "list") (.type "int") = some false := by with_unfolding_all rfl
theorem kit_lst_str (K : PySem.W.Frag) : PySem.W.kitOne K (.type "list") (.type "str") = some false := by with_unfolding_all rfl
theorem kit_lst_bool (K : PySem.W.Frag) : PySem.W.kitOne K (.type "list") (.type "bool") = some false := by with_unfolding_all rfl

/-! ### texts -/
section
variable {X : Cx}
/-- z[lo:hi] of a text -/
def rSlS : V → Option Int → Option Int → Hp → VK → Prop := fun x lo hi H Q => ∃ z, x = .str z ∧ z.length ≤ sizeLine ∧ Q (.str (Txt.slice z lo hi)) H
theorem sl_str : SlR X rSlS := by
  intro pins s σ H x v vl vu lo hi sl Q I rx hs pl pu h
  obtain ⟨z, rfl, hz, q⟩ := h
  obtain ⟨t, rfl⟩ := rx
  refine ⟨"str", _, PySem.F.slot_str_getitem.lookup, typeIs_str s z t, ?_⟩
  cases pl with
  | none =>
    cases pu with
    | none => exact wpAny_getItem_str_slice (l := none) (u := none) (st := none) hs rfl (post_val_or_str ⟨Nat.le_trans (Txt.slice_le z _ _) hz, fun t' k => ⟨.str (Txt.slice z none none), H, I.tok _, ⟨_, rfl⟩, q⟩⟩)
    | int j uj => exact wpAny_getItem_str_slice (l := none) (u := some (j, uj)) (st := none) hs rfl (post_val_or_str ⟨Nat.le_trans (Txt.slice_le z _ _) hz, fun t' k => ⟨.str (Txt.slice z none (some j)), H, I.tok _, ⟨_, rfl⟩, q⟩⟩)
  | int i ui =>
    cases pu with
    | none => exact wpAny_getItem_str_slice (l := some (i, ui)) (u := none) (st := none) hs rfl (post_val_or_str ⟨Nat.le_trans (Txt.slice_le z _ _) hz, fun t' k => ⟨.str (Txt.slice z (some i) none), H, I.tok _, ⟨_, rfl⟩, q⟩⟩)
    | int j uj => exact wpAny_getItem_str_slice (l := some (i, ui)) (u := some (j, uj)) (st := none) hs rfl (post_val_or_str ⟨Nat.le_trans (Txt.slice_le z _ _) hz, fun t' k => ⟨.str (Txt.slice z (some i) (some j)), H, I.tok _, ⟨_, rfl⟩, q⟩⟩)
def rFind : V → List V → Hp → VK → Prop := fun x vs H Q => ∃ z y, x = .str z ∧ vs = [.str y] ∧ Q (.int (Txt.find z y)) H
theorem mt_find : MtR X "str.find" rFind := by
  intro pins s σ H x vs v us Q I rx rv h
  obtain ⟨z, y, rfl, rfl, q⟩ := h
  obtain ⟨t, rfl⟩ := rx
  obtain ⟨u, rfl, t', rfl⟩ := vals1 rv
  exact SC.find ⟨.int _, H, I.tok _, ⟨_, rfl⟩, q⟩
def rUpper : V → List V → Hp → VK → Prop := fun x vs H Q => ∃ z, x = .str z ∧ vs = [] ∧ Builtin.Str.tooLong (Txt.upper z).length = false ∧ Q (.str (Txt.upper z)) H
theorem mt_upper : MtR X "str.upper" rUpper := by
  intro pins s σ H x vs v us Q I rx rv h
  obtain ⟨z, rfl, rfl, hf, q⟩ := h
  obtain ⟨t, rfl⟩ := rx
  cases rv
  exact SC.upper hf ⟨.str _, H, I.tok _, ⟨_, rfl⟩, q⟩
theorem strsAre_of {zs : List Str} : ∀ {us : List Value}, Vals (zs.map V.str) us → StrsAre us zs := by
  induction zs with
  | nil => intro us r; rw [List.map_nil] at r; cases r; exact .nil
  | cons n ns ih =>
    intro us r
    rw [List.map_cons] at r
    cases r with
    | cons r1 r2 =>
      obtain ⟨t, e⟩ := r1
      subst e
      exact .cons n t (ih r2)
def rJoin (K : PySem.W.Frag) : V → List V → Hp → VK → Prop := fun x vs H Q => ∃ z a zs, x = .str z ∧ vs = [.ref a] ∧ SqL K H a (zs.map V.str) ∧ (zs.map (·.length)).sum + zs.length * z.length ≤ 16777216 ∧ Q (.str (Txt.join z zs)) H
theorem mt_join : MtR X "str.join" (rJoin X.K) := by
  intro pins s σ H x vs v us Q I rx rv h
  obtain ⟨z, a, zs, rfl, rfl, hq, hz, q⟩ := h
  obtain ⟨t, rfl⟩ := rx
  obtain ⟨u, rfl, ru⟩ := vals1 rv
  cases ru
  obtain ⟨its, r, pl, _⟩ := I.list hq
  exact join_list (items := its.toArray) pl.isList (strsAre_of r) hz fun t' k => ⟨.str _, H, I.tok _, ⟨_, rfl⟩, q⟩
end

/-! ### all, any of a list of truths -/
theorem boolsAre_of {bs : List Bool} : ∀ {us : List Value}, Vals (bs.map V.bl) us → LSm.BoolsAre us bs := by
  induction bs with
  | nil => intro us r; rw [List.map_nil] at r; cases r; exact .nil
  | cons n ns ih =>
    intro us r
    rw [List.map_cons] at r
    cases r with
    | cons r1 r2 =>
      have e : _ = Value.bool n := r1
      subst e
      exact .cons n (ih r2)
section
variable {X : Cx}
theorem call_all (hc : X.calm = true) : CallR X (.builtin "all") (fun xs H Q => ∃ (a : Addr) (bs : List Bool), xs = [.ref a] ∧ SqL X.K H a (bs.map V.bl) ∧ Q (.bl (bs.all id)) H) := by
  intro pins s σ H xs us Q I r h
  obtain ⟨a, bs, rfl, hq, q⟩ := h
  obtain ⟨u, rfl, ru⟩ := vals1 r
  cases ru
  obtain ⟨its, rv, pl, hz⟩ := I.list hq
  have hb := boolsAre_of rv
  have hl := pl.isList
  have hlt : a < s.heap.objs.size := by obtain ⟨_, e, _⟩ := hl; exact Heap.lt_size e
  refine call_all_walk (wpAny_pyIter_list hl ?_)
  refine ⟨s.heap.objs.size, [s.heap.objs.size, a], [s.heap.objs.size], its.toArray.size, _, _, fun i => (bs[i]?).getD true, rfl, Walks.list (A := X.A.in1) (I.ok.hd hc) _ a (Nat.ne_of_lt hlt) its.toArray,
    ⟨⟨_, Heap.get?_push_size _ rfl, rfl, rfl⟩, hl.push _⟩, fun i v s' Q' E' hP hQ => ?_, fun h' tk hk => ⟨.bl _, H, I.kept (LSm.kept_iter hk), rfl, ?_⟩⟩
  · obtain ⟨b, e, rfl⟩ := hb.get i v (by simpa using hP)
    simp only [e, Option.getD_some] at hQ
    exact wpAny_truthy_bool hQ
  · have e : ((List.range its.toArray.size).all fun i => (bs[i]?).getD true) = bs.all id := by
      rw [List.size_toArray, hb.length]; exact LSm.range_all bs
    rw [e]
    exact q
theorem call_any (hc : X.calm = true) : CallR X (.builtin "any") (fun xs H Q => ∃ (a : Addr) (bs : List Bool), xs = [.ref a] ∧ SqL X.K H a (bs.map V.bl) ∧ Q (.bl (bs.any id)) H) := by
  intro pins s σ H xs us Q I r h
  obtain ⟨a, bs, rfl, hq, q⟩ := h
  obtain ⟨u, rfl, ru⟩ := vals1 r
  cases ru
  obtain ⟨its, rv, pl, hz⟩ := I.list hq
  have hb := boolsAre_of rv
  have hl := pl.isList
  have hlt : a < s.heap.objs.size := by obtain ⟨_, e, _⟩ := hl; exact Heap.lt_size e
  refine call_any_walk (wpAny_pyIter_list hl ?_)
  refine ⟨s.heap.objs.size, [s.heap.objs.size, a], [s.heap.objs.size], its.toArray.size, _, _, fun i => (bs[i]?).getD false, rfl, Walks.list (A := X.A.in1) (I.ok.hd hc) _ a (Nat.ne_of_lt hlt) its.toArray,
    ⟨⟨_, Heap.get?_push_size _ rfl, rfl, rfl⟩, hl.push _⟩, fun i v s' Q' E' hP hQ => ?_, fun h' tk hk => ⟨.bl _, H, I.kept (LSm.kept_iter hk), rfl, ?_⟩⟩
  · obtain ⟨b, e, rfl⟩ := hb.get i v (by simpa using hP)
    simp only [e, Option.getD_some] at hQ
    exact wpAny_truthy_bool hQ
  · have e : ((List.range its.toArray.size).any fun i => (bs[i]?).getD false) = bs.any id := by
      rw [List.size_toArray, hb.length]; exact LSm.range_any bs
    rw [e]
    exact q
end

/-! ### t < u of tuples -/
section
open PySem.SeqAt
inductive LtAt (A : Around) (s : Shared) : List Value → List Value → Bool → Prop where
  | nn : LtAt A s [] [] false
  | nc {w ws} : LtAt A s [] (w :: ws) true
  | cn {v vs} : LtAt A s (v :: vs) [] false
  | eq {v w vs ws b} : EqAt A s v w true → LtAt A s vs ws b → LtAt A s (v :: vs) (w :: ws) b
  | ne {v w vs ws b} : EqAt A s v w false → (∀ (prog : Program) (wo : World) (E Q : Value → Shared → Prop), Q (.bool b) s → wpAny (model prog wo) A (richCompare .Lt v w) Q E s) → LtAt A s (v :: vs) (w :: ws) b
end
section
open PySem.SeqAt
open PySem.AutoSeq1 (wpAny_loadPart')
open PySem.MeetsSeq PySem.MeetsSeq2 PySem.MeetsSeq3
theorem tuple_lt_by (l b : Addr) (items items2 : Array Value) (n n2 : Nat) (dd dd2 : Option Addr) (sl sl2 : Array (Option Value)) (r : Bool) :
    Meets (Builtin.«tuple.__lt__» ⟨[.ref l, .ref b], []⟩)
      (fun A R s => s.heap.get? l = some { cls := .type "tuple", dict := dd, data := .seq items n, slots := sl } ∧ s.heap.get? b = some { cls := .type "tuple", dict := dd2, data := .seq items2 n2, slots := sl2 } ∧
        LtAt A.in1 s items.toList items2.toList r ∧ R (.ok (.ret (.bool r))) s) :=
  .of_wp fun prog w A R s h => by
    obtain ⟨hp, g, d, tk, os⟩ := s; obtain ⟨hl, hb, hlt, h⟩ := h
    have f2 := AutoSeq1.sub_tuple_tuple
    wp_walk using wpAny_loadPart' hl, wpAny_loadPart' hb, wpAny_forIn_list _ (fun rest b s' => b.1 = none ∧ s' = ⟨hp, g, d, tk, os⟩ ∧ ∃ (vs ws : List Value), rest = vs.zip ws ∧
      LtAt A.in1 ⟨hp, g, d, tk, os⟩ vs ws r ∧ vs.length + items2.size = ws.length + items.size) _
    case turn =>
      rintro ⟨y, x⟩ rest b s' ⟨hb', rfl, vs, ws, hz, hlt', hlen⟩
      cases hlt' with
      | nn => rw [List.zip_nil_left] at hz; cases hz
      | nc => rw [List.zip_nil_left] at hz; cases hz
      | cn => rw [List.zip_nil_right] at hz; cases hz
      | eq he hr =>
        rw [List.zip_cons_cons] at hz
        injection hz with hyx hrest
        injection hyx with hy hx
        subst hy hx
        simp only [List.length_cons] at hlen
        refine wpAny_bind (he prog w _ _ ?_)
        wp_walk
        exact ⟨rfl, rfl, _, _, hrest, hr, by omega⟩
      | ne he hr =>
        rw [List.zip_cons_cons] at hz
        injection hz with hyx hrest
        injection hyx with hy hx
        subst hy hx
        refine wpAny_bind (he prog w _ _ ?_)
        have hri := hr prog w
        wp_walk using hri
        exact ⟨_, rfl, by simpa using h⟩
    case fin =>
      rintro ⟨b1, b2⟩ s' ⟨hb', rfl, vs, ws, hz, hlt', hlen⟩
      simp only at hb'
      subst hb'
      have hv : r = decide (items.size < items2.size) := by
        cases hlt' with
        | nn =>
          simp only [List.length_nil] at hlen
          exact (decide_eq_false (by omega)).symm
        | nc =>
          simp only [List.length_nil, List.length_cons] at hlen
          exact (decide_eq_true (by omega)).symm
        | cn =>
          simp only [List.length_nil, List.length_cons] at hlen
          exact (decide_eq_false (by omega)).symm
        | eq _ _ => rw [List.zip_cons_cons] at hz; cases hz
        | ne _ _ => rw [List.zip_cons_cons] at hz; cases hz
      rw [hv] at h
      wp_walk
      exact ⟨_, rfl, by simpa [Builtin.Tuple.tupleCompareSizes] using h⟩
    case h =>
      exact ⟨rfl, rfl, items.toList, items2.toList, rfl, hlt, by simp; omega⟩
end
section
variable {prog : Program} {w : World} {A : Around} {E : Value → Shared → Prop} {s : Shared}
theorem rcLt_tup {l b : Addr} {items items2 : Array Value} {r : Bool} {Q : Value → Shared → Prop} (hl : IsTup s.heap l items) (hb : IsTup s.heap b items2) (hr : LtAt A.in1 s items.toList items2.toList r)
    (hu : A.units < cLine) (h : Q (.bool r) s) : wpAny (model prog w) A (richCompare .Lt (.ref l) (.ref b)) Q E s := by
  obtain ⟨⟨cls, dd, data, sl⟩, ho, hc, n, hd⟩ := id hl
  obtain ⟨⟨cls2, dd2, data2, sl2⟩, ho2, hc2, n2, hd2⟩ := id hb
  simp only at hc hd hc2 hd2
  subst hc hd hc2 hd2
  exact richCompare_meets_room (op := .Lt) ⟨_, ho, rfl⟩ ⟨_, ho2, rfl⟩ PySem.F.slot_tuple_lt PySem.F.entry_tuple_lt (PySem.F.args_tuple_lt_2 _ _) (tuple_lt_by l b items items2 n n2 dd dd2 sl sl2 r)
    ⟨ho, ho2, hr, show Value.bool r ≠ Value.notImplemented ∧ Q (.bool r) s from ⟨(fun x => nomatch x), h⟩⟩ hu
end

/-! ### flat items: which tuple comes first -/
def ltS : V → V → Option Bool
  | .int i, .int j => some (decide (i < j))
  | .str a, .str b => some (decide (a.cps.toList < b.cps.toList))
  | _, _ => none
def ltL : List V → List V → Option Bool
  | [], [] => some false
  | [], _ :: _ => some true
  | _ :: _, [] => some false
  | x :: xs, y :: ys => if (flatV x && flatV y) = true then (if eqV x y = true then ltL xs ys else ltS x y) else none
theorem ltS_at {A : Around} {s : Shared} {x y : V} {v u : Value} {r : Bool} (rx : RelV x v) (ry : RelV y u) (h : ltS x y = some r) (prog : Program) (wo : World) (E Q : Value → Shared → Prop) (q : Q (.bool r) s) :
    wpAny (model prog wo) A (richCompare .Lt v u) Q E s := by
  cases x <;> cases y <;> first | (have h' : (none : Option Bool) = some r := h; cases h'; done) | skip
  · obtain ⟨t, rfl⟩ := rx
    obtain ⟨t', rfl⟩ := ry
    have e : decide _ = r := Option.some.inj h
    subst e
    exact HT.rcLt_int A s _ _ _ _ prog wo E Q q
  · obtain ⟨t, rfl⟩ := rx
    obtain ⟨t', rfl⟩ := ry
    have e : decide _ = r := Option.some.inj h
    subst e
    exact (PyProof.Rows.lt_str q : wpAny (model prog wo) A (compareOp .Lt _ _) Q E s)
theorem ltL_at {A : Around} {s : Shared} : ∀ {xs ys : List V} {us ws : List Value} {r : Bool}, Vals xs us → Vals ys ws → ltL xs ys = some r → LtAt A s us ws r
  | [], [], _, _, r, .nil, .nil, h => by have e : false = r := Option.some.inj h; subst e; exact .nn
  | [], _ :: _, _, _, r, .nil, .cons _ _, h => by have e : true = r := Option.some.inj h; subst e; exact .nc
  | _ :: _, [], _, _, r, .cons _ _, .nil, h => by have e : false = r := Option.some.inj h; subst e; exact .cn
  | x :: xs, y :: ys, _, _, r, .cons rx rxs, .cons ry rys, h => by
    unfold ltL at h
    by_cases hf : (flatV x && flatV y) = true
    · rw [if_pos hf] at h
      rw [Bool.and_eq_true] at hf
      have he := eqAt_V (A := A) (s := s) rx ry hf.1 hf.2
      by_cases e : eqV x y = true
      · rw [if_pos e] at h
        rw [e] at he
        exact .eq he (ltL_at rxs rys h)
      · rw [if_neg e] at h
        rw [Bool.not_eq_true] at e
        rw [e] at he
        exact .ne he fun prog wo E Q q => ltS_at rx ry h prog wo E Q q
    · rw [if_neg hf] at h; cases h
section
variable {X : Cx}
def rLtM (K : PySem.W.Frag) : R2 := fun x y H Q => ∃ a b xs ys r, x = .ref a ∧ y = .ref b ∧ SqT K H a xs ∧ SqT K H b ys ∧ ltL xs ys = some r ∧ Q (.bl r) H
theorem op_ltM (hu : X.A.units < cLine) : OpR X (compareOp .Lt) (rLtM X.K) := by
  intro pins s σ H x y v u Q I rx ry h
  obtain ⟨a, b, xs, ys, r, rfl, rfl, ha, hb, hr, q⟩ := h
  cases rx
  cases ry
  obtain ⟨its, r1, p1, _⟩ := I.tuple ha
  obtain ⟨its2, r2, p2, _⟩ := I.tuple hb
  have fin : EP X pins σ Q (.bool r) s := ⟨.bl r, H, I, rfl, q⟩
  exact (rcLt_tup p1 p2 (ltL_at (by simpa using r1) (by simpa using r2) hr) hu fin : wpAny (model X.prog X.w) X.A (richCompare .Lt (.ref a) (.ref b)) (EP X pins σ Q) X.xe s)
end

/-! ### cutting a block -/
theorem seq_cut {t u : TS} {D : Ends} {σ : St} {H : Hp} (M : St → Hp → Prop) (h1 : ∀ N : St → Hp → Prop, (∀ σ' H', M σ' H' → N σ' H') → t { D with nx := N } σ H) (h2 : ∀ σ' H', M σ' H' → u D σ' H') : tSeq t u D σ H := h1 (u D) h2

/-! ### the type of a known value -/
def tyS (H : Hp) : V → String → Prop
  | .non, n => n = "NoneType"
  | .bl _, n => n = "bool"
  | .int _, n => n = "int"
  | .str _, n => n = "str"
  | .ref a, n => (n = "list" ∧ ∃ xs, H a = some (.lst xs)) ∨ (n = "tuple" ∧ ∃ xs, H a = some (.tup xs))
  | _, _ => False
theorem tyS_of {K : PySem.W.Frag} {H : Hp} {x : V} {n : String} (h : tyS H x n) : TyOf K H x (.type n) := by
  cases x with
  | non => cases (show n = "NoneType" from h); exact .non
  | bl b => cases (show n = "bool" from h); exact .bl b
  | int i => cases (show n = "int" from h); exact .int i
  | str z => cases (show n = "str" from h); exact .str z
  | ref a =>
    rcases h with ⟨rfl, xs, e⟩ | ⟨rfl, xs, e⟩
    · exact .lst e
    · exact .tup e
  | _ => exact False.elim h

/-! ### places in a text -/
theorem atI_ex {α : Type} {xs : List α} {i : Int} (h0 : 0 ≤ i) (h1 : i < xs.length) : ∃ c, atI xs i = some c ∧ xs[i.toNat]? = some c ∧ c ∈ xs := by
  have hlt : i.toNat < xs.length := by omega
  refine ⟨xs[i.toNat], ?_, by simp [hlt], List.getElem_mem hlt⟩
  have e := atI_nat (xs := xs) (j := i.toNat) (v := xs[i.toNat]) (by simp [hlt])
  rwa [show ((i.toNat : Nat) : Int) = i by omega] at e
theorem slice_mem {z : Str} {lo hi : Option Int} {c : Nat} (h : c ∈ (Txt.slice z lo hi).cps.toList) : c ∈ z.cps.toList := by
  unfold Txt.slice at h
  split at h
  · exact h
  · simp only [List.mem_filterMap] at h
    obtain ⟨j, _, e⟩ := h
    obtain ⟨hj, rfl⟩ := Array.getElem?_eq_some_iff.mp e
    simp
theorem cps_app (x y : Str) : (x ++ y).cps.toList = x.cps.toList ++ y.cps.toList := by
  show (x.cps ++ y.cps).toList = _
  simp
theorem len_app (x y : Str) : (x ++ y).length = x.length + y.length := by
  show (x.cps ++ y.cps).size = _
  simp [Str.length]
theorem len_cps (x : Str) : x.cps.toList.length = x.length := by simp [Str.length]

/-! ### a cell of the script -/
def spCell (K : PySem.W.Frag) (a : Addr) (ns : List Int) : Sp := fun vs H Q _ => ∃ k : Int, vs = [.ref a, .int k] ∧ SqL K H a (ns.map V.int) ∧ 0 ≤ k ∧ Q (.int (ns.getD k.toNat 0)) H
theorem cell_in {ns : List Int} {k : Int} (h0 : 0 ≤ k) (h1 : k < (ns.map V.int).length) : atI (ns.map V.int) k = some (.int (ns.getD k.toNat 0)) := by
  rw [List.length_map] at h1
  have hlt : k.toNat < ns.length := by omega
  have e := atI_nat (xs := ns.map V.int) (j := k.toNat) (v := .int (ns.getD k.toNat 0)) (by simp [List.getElem?_map, hlt])
  rwa [show ((k.toNat : Nat) : Int) = k by omega] at e
theorem cell_out {ns : List Int} {k : Int} (h0 : 0 ≤ k) (h1 : ¬ k < (ns.map V.int).length) : ns.getD k.toNat 0 = 0 := by
  rw [List.length_map] at h1
  have : ns.length ≤ k.toNat := by omega
  simp [List.getD_eq_getElem?_getD, this]
def spLaw (K : PySem.W.Frag) : Sp := fun vs H Q _ => ∃ (a : Addr) (ns : List Int), vs = [.ref a] ∧ SqL K H a (ns.map V.int) ∧ ns.length ≤ 63 ∧ ∀ H', Q (.bl true) H'

/-! ### places, the item told behind -/
section
variable {X : Cx}
def rIxSA : R2 := fun x y H Q => ∃ (z : Str) (i : Int), x = .str z ∧ y = .int i ∧ z.length ≤ sizeLine ∧ 0 ≤ i ∧ i < (z.length : Int) ∧ ∀ c, z.cps.toList[i.toNat]? = some c → Q (.str ⟨#[c]⟩) H
theorem ix_strA : IxR X rIxSA := by
  intro value slice pins s σ H x y v u Q I rx ry h hs
  obtain ⟨z, i, rfl, rfl, hz, h0, h1, q⟩ := h
  obtain ⟨c, e1, e2, _⟩ := atI_ex (xs := z.cps.toList) h0 (by rw [len_cps]; exact h1)
  exact ix_str value slice pins s σ H _ _ v u Q I rx ry ⟨z, i, c, rfl, rfl, hz, e1, q c e2⟩ hs
def rIxLA (K : PySem.W.Frag) : R2 := fun x y H Q => ∃ (p : Addr) (xs : List V) (i : Int), x = .ref p ∧ y = .int i ∧ SqL K H p xs ∧ 0 ≤ i ∧ i < (xs.length : Int) ∧ ∀ v, xs[i.toNat]? = some v → Q v H
theorem ix_listA : IxR X (rIxLA X.K) := by
  intro value slice pins s σ H x y v u Q I rx ry h hs
  obtain ⟨p, xs, i, rfl, rfl, hq, h0, h1, q⟩ := h
  obtain ⟨c, e1, e2, _⟩ := atI_ex (xs := xs) h0 h1
  exact ix_list value slice pins s σ H _ _ v u Q I rx ry ⟨p, xs, i, c, rfl, rfl, hq, e1, q c e2⟩ hs
end

/-! ### == of two lists of flat items -/
def eqVs : List V → List V → Bool
  | [], [] => true
  | x :: xs, y :: ys => eqV x y && eqVs xs ys
  | _, _ => false
theorem eqVs_ne : ∀ {xs ys : List V}, xs.length ≠ ys.length → eqVs xs ys = false
  | [], [], h => absurd rfl h
  | [], _ :: _, _ => rfl
  | _ :: _, [], _ => rfl
  | x :: xs, y :: ys, h => by
    have := eqVs_ne (xs := xs) (ys := ys) (fun e => h (by simp [e]))
    simp [eqVs, this]
theorem eqVs_eq : ∀ {xs ys : List V}, xs.length = ys.length → eqVs xs ys = (List.range xs.length).all fun j => eqV (xs.getD j .non) (ys.getD j .non)
  | [], [], _ => rfl
  | [], _ :: _, h => by simp at h
  | _ :: _, [], h => by simp at h
  | x :: xs, y :: ys, h => by
    have ih := eqVs_eq (xs := xs) (ys := ys) (by simpa using h)
    rw [eqVs, ih, List.length_cons, List.range_succ_eq_map, List.all_cons, List.all_map]
    rfl
section
variable {X : Cx}
theorem op_eqL (hu : X.A.units < cLine) : OpR X (compareOp .Eq) (fun x y H Q => ∃ a b xs ys, x = .ref a ∧ y = .ref b ∧ SqL X.K H a xs ∧ SqL X.K H b ys ∧ xs.all flatV = true ∧ ys.all flatV = true ∧ Q (.bl (eqVs xs ys)) H) := by
  intro pins s σ H x y v u Q I rx ry h
  obtain ⟨a, b, xs, ys, rfl, rfl, ha, hb, fx, fy, q⟩ := h
  cases rx
  cases ry
  obtain ⟨its, r1, p1, _⟩ := I.list ha
  obtain ⟨its2, r2, p2, _⟩ := I.list hb
  have l1 := r1.length
  have l2 := r2.length
  by_cases hl : xs.length = ys.length
  · rw [eqVs_eq hl] at q
    refine SeqAt.eq_listAt (e := fun j => eqV (xs.getD j .non) (ys.getD j .non)) p1.isList p2.isList (by rw [List.size_toArray, List.size_toArray]; omega) hu (fun j h1 h2 => ?_) ⟨.bl _, H, I, rfl, ?_⟩
    · rw [List.size_toArray] at h1 h2
      have h1' : j < xs.length := by omega
      have h2' : j < ys.length := by omega
      obtain ⟨u1, e1, q1⟩ := r1.get (i := j) (x := xs[j]) (by simp [h1'])
      obtain ⟨u2, e2, q2⟩ := r2.get (i := j) (x := ys[j]) (by simp [h2'])
      have z1 : its.toArray[j] = u1 := by
        have := List.getElem?_eq_some_iff.mp e1
        obtain ⟨_, e⟩ := this
        simpa using e
      have z2 : its2.toArray[j] = u2 := by
        have := List.getElem?_eq_some_iff.mp e2
        obtain ⟨_, e⟩ := this
        simpa using e
      rw [z1, z2]
      have g1 : xs.getD j .non = xs[j] := by simp [List.getD_eq_getElem?_getD, h1']
      have g2 : ys.getD j .non = ys[j] := by simp [List.getD_eq_getElem?_getD, h2']
      show SeqAt.EqAt _ _ _ _ (eqV (xs.getD j .non) (ys.getD j .non))
      rw [g1, g2]
      exact eqAt_V q1 q2 (List.all_eq_true.mp fx _ (List.getElem_mem h1')) (List.all_eq_true.mp fy _ (List.getElem_mem h2'))
    · rw [List.size_toArray, ← l1]
      exact q
  · rw [eqVs_ne hl] at q
    exact SeqAt.eq_list_lengthsAt p1.isList p2.isList (by rw [List.size_toArray, List.size_toArray, ← l1, ← l2]; simpa using hl) hu ⟨.bl _, H, I, rfl, q⟩
end
theorem tyS_same {H H' : Hp} {x : V} {n : String} (s : Same H H') (h : tyS H x n) : tyS H' x n := by
  cases x with
  | ref a =>
    rcases h with ⟨e, xs, h⟩ | ⟨e, xs, h⟩
    · exact .inl ⟨e, xs, s _ _ h⟩
    · exact .inr ⟨e, xs, s _ _ h⟩
  | _ => exact h
theorem same_upd {H : Hp} {p : Addr} {o : HO} (h : H p = none) : Same H (upd H p o) := fun b u e => by rw [upd_ne (ne_of_none e h)]; exact e
theorem cell_at {ns : List Int} {k : Int} {v : V} (h : (ns.map V.int)[k.toNat]? = some v) : v = .int (ns.getD k.toNat 0) := by
  rw [List.getElem?_map] at h
  cases e : ns[k.toNat]? with
  | none => rw [e] at h; cases h
  | some z => rw [e] at h; cases h; simp [List.getD_eq_getElem?_getD, e]
end L2

set_option Elab.async false
set_option linter.all false
set_option maxRecDepth 100000
/-! Values in depth. Data D (a tree without addresses), what a value denotes (Den), and judgements in which a def's body is a plain function over data.
   A slot of a frame holds data: val (never changed any more), own (a list that this frame made and nobody else refers to: it may still be changed), lent (a list of a caller's: read only), no (nothing known). -/
namespace L2
open PySem PySem.Spec PyProof.Rows

theorem ite_t {A B : Prop} (h : A) : (if true = true then A else B) := (if_pos (c := true = true) rfl : ite _ A B = A) ▸ h
theorem ite_f {A B : Prop} (h : B) : (if false = true then A else B) := (if_neg (c := false = true) Bool.false_ne_true : ite _ A B = B) ▸ h
inductive D where
  | non | bl (b : Bool) | int (i : Int) | str (x : Str) | ty (n : String) | tup (xs : List D) | lst (xs : List D)

/-- addresses that data must not lean on -/
abbrev Fb := Addr → Prop
/-- a list of the module itself -/
def KL (K : PySem.W.Frag) (a : Addr) (vs : List V) : Prop := SqL K (fun _ => none) a vs
/-- a list that N does not name, or one of the module -/
def LstAt (K : PySem.W.Frag) (N : Fb) (H : Hp) (a : Addr) (vs : List V) : Prop := (¬ N a ∧ Rd H a (.lst vs)) ∨ KL K a vs
theorem KL.sq {K : PySem.W.Frag} {H : Hp} {a : Addr} {vs : List V} (h : KL K a vs) : SqL K H a vs := by
  rcases h with (h | ⟨o, h⟩) | h
  · cases h
  · cases h
  · exact .inr h
theorem LstAt.sq {K : PySem.W.Frag} {N : Fb} {H : Hp} {a : Addr} {vs : List V} (h : LstAt K N H a vs) : SqL K H a vs := by
  rcases h with ⟨_, h⟩ | h
  · exact .inl h
  · exact h.sq
theorem LstAt.of {K : PySem.W.Frag} {N : Fb} {H : Hp} {a : Addr} {vs : List V} (n : ¬ N a) (h : H a = some (.lst vs)) : LstAt K N H a vs := .inl ⟨n, .inl h⟩
theorem LstAt.of_sq {K : PySem.W.Frag} {H : Hp} {a : Addr} {vs : List V} (h : SqL K H a vs) : LstAt K (fun _ => False) H a vs := by
  rcases h with h | h
  · exact .inl ⟨id, h⟩
  · exact .inr (.inr h)

mutual
def Den (K : PySem.W.Frag) (N : Fb) (H : Hp) : D → V → Prop
  | .non, v => v = .non
  | .bl b, v => v = .bl b
  | .int i, v => v = .int i
  | .str x, v => v = .str x
  | .ty n, v => v = .ty n
  | .tup xs, v => ∃ a vs, v = .ref a ∧ SqT K H a vs ∧ DenL K N H xs vs
  | .lst xs, v => ∃ a vs, v = .ref a ∧ LstAt K N H a vs ∧ DenL K N H xs vs
def DenL (K : PySem.W.Frag) (N : Fb) (H : Hp) : List D → List V → Prop
  | [], vs => vs = []
  | x :: xs, vs => ∃ v r, vs = v :: r ∧ Den K N H x v ∧ DenL K N H xs r
end

/-- from N, H to N', H': lists that N does not name, those of M, and all that is no list stay; N' names new addresses at most -/
structure Step (M N N' : Fb) (H H' : Hp) : Prop where
  kp : ∀ a o, H a = some o → (¬ N a ∨ M a ∨ ∀ xs, o ≠ .lst xs) → H' a = some o
  nw : ∀ a, N' a → N a ∨ H a = none
theorem Step.trans {M N N1 N2 : Fb} {H H1 H2 : Hp} (a : Step M N N1 H H1) (b : Step M N1 N2 H1 H2) : Step M N N2 H H2 where
  kp := fun c o h z => by
    have h1 := a.kp c o h z
    refine b.kp c o h1 ?_
    rcases z with z | z | z
    · refine .inl fun n1 => ?_
      rcases a.nw c n1 with q | q
      · exact z q
      · rw [h] at q; cases q
    · exact .inr (.inl z)
    · exact .inr (.inr z)
  nw := fun c n2 => by
    rcases b.nw c n2 with q | q
    · exact a.nw c q
    · cases e : H c with
      | none => exact .inr rfl
      | some o =>
        refine .inl (Classical.byContradiction fun z => ?_)
        rw [a.kp c o e (.inl z)] at q
        cases q
theorem Step.of_same {M N : Fb} {H H' : Hp} (s : Same H H') : Step M N N H H' := ⟨fun a o h _ => s a o h, fun a h => .inl h⟩
theorem Step.refl {M N : Fb} {H : Hp} : Step M N N H H := Step.of_same (Same.refl H)

theorem Rd.step {M N N' : Fb} {H H' : Hp} {a : Addr} {u : HO} (s : Step M N N' H H') (h : Rd H a u) (z : ¬ N a ∨ M a ∨ ∀ xs, u ≠ .lst xs) : Rd H' a u := by
  rcases h with h | ⟨o, h⟩
  · exact .inl (s.kp a u h z)
  · exact .inr ⟨o, s.kp a _ h (.inr (.inr fun xs e => nomatch e))⟩
theorem Rd.same {H H' : Hp} {a : Addr} {u : HO} (s : Same H H') (h : Rd H a u) : Rd H' a u := by
  rcases h with h | ⟨o, h⟩
  · exact .inl (s a u h)
  · exact .inr ⟨o, s a _ h⟩
theorem SqT.step {K : PySem.W.Frag} {M N N' : Fb} {H H' : Hp} {a : Addr} {xs : List V} (s : Step M N N' H H') (h : SqT K H a xs) : SqT K H' a xs := by
  rcases h with h | h
  · exact .inl (h.step s (.inr (.inr fun xs e => nomatch e)))
  · exact .inr h
theorem SqT.same {K : PySem.W.Frag} {H H' : Hp} {a : Addr} {xs : List V} (s : Same H H') (h : SqT K H a xs) : SqT K H' a xs := SqT.step (M := fun _ => False) (N := fun _ => False) (Step.of_same s) h
theorem Rd.has {H : Hp} {a : Addr} {u : HO} (h : Rd H a u) : H a ≠ none := by
  rcases h with h | ⟨o, h⟩ <;> rw [h] <;> exact fun e => nomatch e

mutual
theorem Den.step {K : PySem.W.Frag} {M N N' : Fb} {H H' : Hp} (s : Step M N N' H H') : ∀ (d : D) (v : V), Den K N H d v → Den K N' H' d v
  | .non, _, h => h
  | .bl _, _, h => h
  | .int _, _, h => h
  | .str _, _, h => h
  | .ty _, _, h => h
  | .tup xs, v, h => by
    simp only [Den] at h ⊢
    obtain ⟨a, vs, e, q, r⟩ := h
    exact ⟨a, vs, e, q.step s, DenL.step s xs vs r⟩
  | .lst xs, v, h => by
    simp only [Den] at h ⊢
    obtain ⟨a, vs, e, q, r⟩ := h
    refine ⟨a, vs, e, ?_, DenL.step s xs vs r⟩
    rcases q with ⟨n, q⟩ | q
    · refine .inl ⟨fun n' => ?_, q.step s (.inl n)⟩
      rcases s.nw a n' with z | z
      · exact n z
      · exact q.has z
    · exact .inr q
theorem DenL.step {K : PySem.W.Frag} {M N N' : Fb} {H H' : Hp} (s : Step M N N' H H') : ∀ (xs : List D) (vs : List V), DenL K N H xs vs → DenL K N' H' xs vs
  | [], _, h => h
  | x :: xs, vs, h => by
    simp only [DenL] at h ⊢
    obtain ⟨v, r, e, q, t⟩ := h
    exact ⟨v, r, e, Den.step s x v q, DenL.step s xs r t⟩
end
section
variable {K : PySem.W.Frag} {M N N' : Fb} {H H' : Hp} {d : D} {v : V} {xs ys : List D} {vs ws : List V} {a : Addr}
theorem Den.same (h : Den K N H d v) (s : Same H H') : Den K N H' d v := Den.step (M := N) (Step.of_same s) d v h
theorem DenL.same (h : DenL K N H xs vs) (s : Same H H') : DenL K N H' xs vs := DenL.step (M := N) (Step.of_same s) xs vs h
/-- fewer addresses are named, or new ones -/
theorem Den.nw (h : Den K N H d v) (z : ∀ a, N' a → N a ∨ H a = none) : Den K N' H d v := Den.step (M := N) (H' := H) ⟨fun _ _ h _ => h, z⟩ d v h
theorem DenL.nw (h : DenL K N H xs vs) (z : ∀ a, N' a → N a ∨ H a = none) : DenL K N' H xs vs := DenL.step (M := N) (H' := H) ⟨fun _ _ h _ => h, z⟩ xs vs h
theorem DenL.length : ∀ {xs : List D} {vs : List V}, DenL K N H xs vs → xs.length = vs.length
  | [], _, h => by simp only [DenL] at h; subst h; rfl
  | _ :: xs, _, h => by simp only [DenL] at h; obtain ⟨v, r, e, _, t⟩ := h; subst e; simp [DenL.length t]
theorem DenL.get : ∀ {xs : List D} {vs : List V} {i : Nat} {d : D}, DenL K N H xs vs → xs[i]? = some d → ∃ v, vs[i]? = some v ∧ Den K N H d v
  | [], _, i, d, _, e => by simp at e
  | x :: xs, _, 0, d, h, e => by
    simp only [DenL] at h; obtain ⟨v, r, e1, q, _⟩ := h; subst e1
    simp at e; subst e; exact ⟨v, rfl, q⟩
  | x :: xs, _, i + 1, d, h, e => by
    simp only [DenL] at h; obtain ⟨v, r, e1, _, t⟩ := h; subst e1
    obtain ⟨w, h1, h2⟩ := DenL.get (i := i) t (by simpa using e)
    exact ⟨w, by simpa using h1, h2⟩
theorem DenL.get' : ∀ {xs : List D} {vs : List V} {i : Nat} {v : V}, DenL K N H xs vs → vs[i]? = some v → ∃ d, xs[i]? = some d ∧ Den K N H d v := by
  intro xs vs i v h e
  have hl := h.length
  have hi : i < vs.length := (List.getElem?_eq_some_iff.mp e).1
  have hx : xs[i]? = some xs[i] := List.getElem?_eq_getElem (by omega)
  obtain ⟨w, h1, h2⟩ := h.get hx
  rw [e] at h1; cases h1
  exact ⟨_, hx, h2⟩
theorem DenL.append : ∀ {xs ys : List D} {vs ws : List V}, DenL K N H xs vs → DenL K N H ys ws → DenL K N H (xs ++ ys) (vs ++ ws)
  | [], _, _, _, h, h' => by simp only [DenL] at h; subst h; exact h'
  | x :: xs, ys, _, ws, h, h' => by
    simp only [DenL] at h; obtain ⟨v, r, e, q, t⟩ := h; subst e
    simp only [List.cons_append, DenL]
    exact ⟨v, r ++ ws, rfl, q, DenL.append t h'⟩
theorem DenL.nil : DenL K N H [] [] := by simp only [DenL]
theorem DenL.cons (h : Den K N H d v) (t : DenL K N H xs vs) : DenL K N H (d :: xs) (v :: vs) := by simp only [DenL]; exact ⟨v, vs, rfl, h, t⟩
theorem DenL.take : ∀ {xs : List D} {vs : List V} (n : Nat), DenL K N H xs vs → DenL K N H (xs.take n) (vs.take n)
  | _, _, 0, _ => by simpa using DenL.nil
  | [], _, n + 1, h => by simp only [DenL] at h; subst h; simpa using DenL.nil
  | x :: xs, _, n + 1, h => by
    simp only [DenL] at h; obtain ⟨v, r, e, q, t⟩ := h; subst e
    simpa using DenL.cons q (DenL.take n t)
theorem DenL.drop : ∀ {xs : List D} {vs : List V} (n : Nat), DenL K N H xs vs → DenL K N H (xs.drop n) (vs.drop n)
  | _, _, 0, h => by simpa using h
  | [], _, n + 1, h => by simp only [DenL] at h; subst h; simpa using DenL.nil
  | x :: xs, _, n + 1, h => by
    simp only [DenL] at h; obtain ⟨v, r, e, q, t⟩ := h; subst e
    simpa using DenL.drop n t
theorem DenL.reverse : ∀ {xs : List D} {vs : List V}, DenL K N H xs vs → DenL K N H xs.reverse vs.reverse
  | [], _, h => by simp only [DenL] at h; subst h; simpa using DenL.nil
  | x :: xs, _, h => by
    simp only [DenL] at h; obtain ⟨v, r, e, q, t⟩ := h; subst e
    simpa using DenL.append (DenL.reverse t) (DenL.cons q DenL.nil)
theorem DenL.set : ∀ {xs : List D} {vs : List V} (i : Nat), DenL K N H xs vs → Den K N H d v → DenL K N H (xs.set i d) (vs.set i v)
  | [], _, _, h, _ => by simp only [DenL] at h; subst h; simpa using DenL.nil
  | x :: xs, _, 0, h, q => by
    simp only [DenL] at h; obtain ⟨v, r, e, _, t⟩ := h; subst e
    simpa using DenL.cons q t
  | x :: xs, _, i + 1, h, q => by
    simp only [DenL] at h; obtain ⟨v, r, e, q', t⟩ := h; subst e
    simpa using DenL.cons q' (DenL.set i t q)
theorem DenL.ints : ∀ (ns : List Int), DenL K N H (ns.map D.int) (ns.map V.int)
  | [] => DenL.nil
  | n :: ns => DenL.cons (by simp only [Den]) (DenL.ints ns)
end

/-! ### slots, the frame -/
inductive Sl where
  | no | val (d : D) | own (xs : List D) | lent (xs : List D)
abbrev VE := List Sl
/-- M and the lists that the frame owns -/
def Nf (M : Fb) (ρ : VE) (σ : St) : Fb := fun a => M a ∨ ∃ (i : Nat) (xs : List D), ρ[i]? = some (Sl.own xs) ∧ σ[i]? = some (some (V.ref a))
def SlOk (K : PySem.W.Frag) (M N : Fb) (H0 H : Hp) : Sl → Option V → Prop
  | .no, _ => True
  | .val d, o => ∃ v, o = some v ∧ Den K N H d v
  | .own xs, o => ∃ a vs, o = some (.ref a) ∧ H0 a = none ∧ ¬ M a ∧ H a = some (.lst vs) ∧ DenL K N H xs vs
  | .lent xs, o => ∃ a vs, o = some (.ref a) ∧ M a ∧ Rd H a (.lst vs) ∧ DenL K N H xs vs
structure Rel (K : PySem.W.Frag) (M : Fb) (H0 : Hp) (ρ : VE) (σ : St) (H : Hp) : Prop where
  len : ρ.length = σ.length
  same : Same H0 H
  mh : ∀ a, M a → H a ≠ none
  slot : ∀ (i : Nat) (s : Sl), ρ[i]? = some s → SlOk K M (Nf M ρ σ) H0 H s (σ[i]?.join)
  inj : ∀ (i j : Nat) (xs ys : List D) (a : Addr), ρ[i]? = some (Sl.own xs) → ρ[j]? = some (Sl.own ys) → σ[i]? = some (some (V.ref a)) → σ[j]? = some (some (V.ref a)) → i = j
section
variable {K : PySem.W.Frag} {M N : Fb} {H0 H H' : Hp} {ρ : VE} {σ : St}
theorem Rel.nh (R : Rel K M H0 ρ σ H) : ∀ a, Nf M ρ σ a → H a ≠ none := by
  rintro a (h | ⟨i, xs, h1, h2⟩)
  · exact R.mh a h
  · obtain ⟨b, vs, e, _, _, q, _⟩ := R.slot i _ h1
    rw [h2] at e
    have e' : b = a := by simpa using e.symm
    rw [← e', q]; exact fun z => nomatch z
theorem Rel.st (R : Rel K M H0 ρ σ H) (s : Same H H') : Rel K M H0 ρ σ H' where
  len := R.len
  same := R.same.trans s
  mh := fun a h z => R.mh a h (s.free z)
  slot := fun i sl e => by
    have q := R.slot i sl e
    cases sl with
    | no => trivial
    | val d => obtain ⟨v, e, h⟩ := q; exact ⟨v, e, h.same s⟩
    | own xs => obtain ⟨a, vs, e, h1, h2, h3, h4⟩ := q; exact ⟨a, vs, e, h1, h2, s _ _ h3, h4.same s⟩
    | lent xs => obtain ⟨a, vs, e, h1, h2, h3⟩ := q; exact ⟨a, vs, e, h1, h2.same s, h3.same s⟩
  inj := R.inj
theorem Rel.fresh (R : Rel K M H0 ρ σ H) {p : Addr} (h : H p = none) : ¬ Nf M ρ σ p := fun n => R.nh p n h
end

/-! ### expressions: f gives the data from the slots -/
def tD (K : PySem.W.Frag) (M : Fb) (H0 : Hp) (f : VE → Option D) : TE := fun σ H Q => ∃ ρ d, Rel K M H0 ρ σ H ∧ f ρ = some d ∧ ∀ v H', Same H H' → Den K (Nf M ρ σ) H' d v → Q v H'
/-- read only: the list itself may be one that is owned or lent -/
def DenP (K : PySem.W.Frag) (N : Fb) (H : Hp) (d : D) (v : V) : Prop := match d with
  | .lst xs => ∃ a vs, v = .ref a ∧ SqL K H a vs ∧ DenL K N H xs vs
  | d => Den K N H d v
theorem Den.p {K : PySem.W.Frag} {N : Fb} {H : Hp} {d : D} {v : V} (h : Den K N H d v) : DenP K N H d v := by
  cases d with
  | lst xs => simp only [Den] at h; obtain ⟨a, vs, e, q, r⟩ := h; exact ⟨a, vs, e, q.sq, r⟩
  | _ => exact h
theorem DenP.same {K : PySem.W.Frag} {N : Fb} {H H' : Hp} {d : D} {v : V} (h : DenP K N H d v) (s : Same H H') : DenP K N H' d v := by
  cases d with
  | lst xs => obtain ⟨a, vs, e, q, r⟩ := h; exact ⟨a, vs, e, s.seq q, r.same s⟩
  | _ => exact Den.same h s
def tP (K : PySem.W.Frag) (M : Fb) (H0 : Hp) (f : VE → Option D) : TE := fun σ H Q => ∃ ρ d, Rel K M H0 ρ σ H ∧ f ρ = some d ∧ ∀ v H', Same H H' → DenP K (Nf M ρ σ) H' d v → Q v H'
/-- a new list -/
def tF (K : PySem.W.Frag) (M : Fb) (H0 : Hp) (f : VE → Option (List D)) : TE := fun σ H Q => ∃ ρ xs, Rel K M H0 ρ σ H ∧ f ρ = some xs ∧
  ∀ a vs H', Same H H' → H a = none → H' a = some (.lst vs) → DenL K (fun b => Nf M ρ σ b ∨ b = a) H' xs vs → Q (.ref a) H'
def tB' (K : PySem.W.Frag) (M : Fb) (H0 : Hp) (f : VE → Option Bool) : TT := fun σ H Q => ∃ ρ b, Rel K M H0 ρ σ H ∧ f ρ = some b ∧ ∀ H', Same H H' → Q b H'

/-! the judgements as structures: the elaborator does not unfold them -/
structure JE (X : Cx) (e : Expr) (t : TE) : Prop where h : PE X e t
structure JT (X : Cx) (e : Expr) (t : TT) : Prop where h : PT X e t
structure JW (X : Cx) (e : Expr) (t : TT) : Prop where h : PW X e t
structure JA (X : Cx) (e : List Expr) (t : TA) : Prop where h : PA X e t
structure JS (X : Cx) (e : Stmt) (t : TS) : Prop where h : PS X e t
structure JB (X : Cx) (e : List Stmt) (t : TS) : Prop where h : PSs X e t
structure JI (X : Cx) (tg e : Expr) (t : TI) : Prop where h : PI X tg e t
structure JG (X : Cx) (e : Expr) (t : TG) : Prop where h : PG X e t
structure JK (X : Cx) (e : List Expr) (t : TGs) : Prop where h : PGs X e t
structure JO (X : Cx) (e : Option Expr) (t : TO) : Prop where h : PO X e t
structure JF (X : Cx) (e : List Expr) (t : TT) : Prop where h : PFs X e t
theorem PE.mono {X : Cx} {e : Expr} {t t' : TE} (h : PE X e t) (m : ∀ σ H Q, t' σ H Q → t σ H Q) : PE X e t' := fun pins s σ H Q I q => h pins s σ H Q I (m σ H Q q)
theorem PT.mono {X : Cx} {e : Expr} {t t' : TT} (h : PT X e t) (m : ∀ σ H Q, t' σ H Q → t σ H Q) : PT X e t' := fun pins s σ H Q I q => h pins s σ H Q I (m σ H Q q)
theorem PW.mono {X : Cx} {e : Expr} {t t' : TT} (h : PW X e t) (m : ∀ σ H Q, t' σ H Q → t σ H Q) : PW X e t' := fun wh pins s σ H Q I q => h wh pins s σ H Q I (m σ H Q q)
theorem PA.mono {X : Cx} {e : List Expr} {t t' : TA} (h : PA X e t) (m : ∀ σ H Q, t' σ H Q → t σ H Q) : PA X e t' := fun pos pins s σ H Q I q => h pos pins s σ H Q I (m σ H Q q)
theorem PS.mono {X : Cx} {e : Stmt} {t t' : TS} (h : PS X e t) (m : ∀ D σ H, t' D σ H → t D σ H) : PS X e t' := fun pins s σ H D I q => h pins s σ H D I (m D σ H q)
theorem PSs.mono {X : Cx} {e : List Stmt} {t t' : TS} (h : PSs X e t) (m : ∀ D σ H, t' D σ H → t D σ H) : PSs X e t' := fun pins s σ H D I q => h pins s σ H D I (m D σ H q)

section
variable {X : Cx} {K : PySem.W.Frag} {M : Fb} {H0 : Hp} {e a b : Expr} {f g : VE → Option D} {pos : Pos}
/-- reading only -/
theorem PE.p (h : PE X e (tD K M H0 f)) : PE X e (tP K M H0 f) := h.mono fun σ H Q ⟨ρ, d, R, e, q⟩ => ⟨ρ, d, R, e, fun v H' s z => q v H' s z.p⟩
theorem j_p (h : JE X e (tD K M H0 f)) : JE X e (tP K M H0 f) := ⟨PE.p h.h⟩
/-- a new list, as data -/
@[simp] def lstO (o : Option (List D)) : Option D := o.map D.lst
theorem PE.fd {f : VE → Option (List D)} (h : PE X e (tF K M H0 f)) : PE X e (tD K M H0 fun ρ => lstO (f ρ)) := h.mono fun σ H Q ⟨ρ, d, R, e, q⟩ => by
  try dsimp only at e q
  cases hf : f ρ with
  | none => rw [hf] at e; cases e
  | some xs =>
    rw [hf] at e
    cases e
    refine ⟨ρ, xs, R, hf, fun a vs H' s z1 z2 z3 => q _ _ s ?_⟩
    simp only [Den]
    refine ⟨a, vs, rfl, .of (R.fresh z1) z2, z3.nw fun b hb => .inl (.inl hb)⟩
theorem j_fd {f : VE → Option (List D)} (h : JE X e (tF K M H0 f)) : JE X e (tD K M H0 fun ρ => lstO (f ρ)) := ⟨PE.fd h.h⟩
theorem PE.fp {f : VE → Option (List D)} (h : PE X e (tF K M H0 f)) : PE X e (tP K M H0 fun ρ => lstO (f ρ)) := h.fd.p

/-! names, constants -/
@[simp] def rdV (ρ : VE) (i : Nat) : Option D := match ρ[i]? with
  | some (.val d) => some d
  | _ => none
@[simp] def rdP (ρ : VE) (i : Nat) : Option D := match ρ[i]? with
  | some (.val d) => some d
  | some (.own xs) => some (.lst xs)
  | some (.lent xs) => some (.lst xs)
  | _ => none
theorem rdV_slot {ρ : VE} {i : Nat} {d : D} (h : rdV ρ i = some d) : ρ[i]? = some (.val d) := by
  unfold rdV at h
  split at h
  · cases h; assumption
  · cases h
theorem ve_var {i : Nat} {x : Str} (hN : X.N[i]? = some x) (hv : Vis X.env.scope x) (hd : (x == ("__debug__" : Str)) = false := by decide) (hcd : (x == ("__classdict__" : Str)) = false := by decide) : PE X (.Name x pos) (tD K M H0 fun ρ => rdV ρ i) :=
  (pe_var hN hv hd hcd).mono fun σ H Q ⟨ρ, d, R, e, q⟩ => by
    try dsimp only at e q
    obtain ⟨v, e1, h⟩ := R.slot i _ (rdV_slot e)
    refine ⟨v, ?_, q v H (Same.refl H) h⟩
    cases z : σ[i]? with
    | none => rw [z] at e1; cases e1
    | some o => rw [z] at e1; cases e1; rfl
theorem vp_var {i : Nat} {x : Str} (hN : X.N[i]? = some x) (hv : Vis X.env.scope x) (hd : (x == ("__debug__" : Str)) = false := by decide) (hcd : (x == ("__classdict__" : Str)) = false := by decide) : PE X (.Name x pos) (tP K M H0 fun ρ => rdP ρ i) :=
  (pe_var hN hv hd hcd).mono fun σ H Q ⟨ρ, d, R, e, q⟩ => by
    try dsimp only at e q
    have fin : ∀ v, σ[i]?.join = some v → DenP K (Nf M ρ σ) H d v → ∃ v, σ[i]? = some (some v) ∧ Q v H := fun v e1 h => by
      refine ⟨v, ?_, q v H (Same.refl H) h⟩
      cases z : σ[i]? with
      | none => rw [z] at e1; cases e1
      | some o => rw [z] at e1; cases e1; rfl
    unfold rdP at e
    split at e
    · next h => cases e; obtain ⟨v, e1, h⟩ := R.slot i _ h; exact fin v e1 h.p
    · next h => cases e; obtain ⟨a, vs, e1, _, _, h3, h4⟩ := R.slot i _ h; exact fin _ e1 ⟨a, vs, rfl, .inl (.inl h3), h4⟩
    · next h => cases e; obtain ⟨a, vs, e1, _, h3, h4⟩ := R.slot i _ h; exact fin _ e1 ⟨a, vs, rfl, .inl h3, h4⟩
    · cases e
theorem ve_c {d : D} {v : V} {e : Expr} (h : PE X e (tC v)) (hd : ∀ N H, Den K N H d v) : PE X e (tD K M H0 fun _ => some d) :=
  h.mono fun σ H Q ⟨ρ, d', R, e, q⟩ => by (try dsimp only at e q); cases e; exact q v H (Same.refl H) (hd _ _)
theorem ve_int {i j pos} : PE X (.Constant (.int i) j pos) (tD K M H0 fun _ => some (.int i)) := ve_c pe_int fun _ _ => by simp only [Den]
theorem j_ve_int {i j pos} : JE X (.Constant (.int i) j pos) (tD K M H0 fun _ => some (.int i)) := ⟨ve_int ⟩
theorem ve_bl {i j pos} : PE X (.Constant (.bool i) j pos) (tD K M H0 fun _ => some (.bl i)) := ve_c pe_bl fun _ _ => by simp only [Den]
theorem j_ve_bl {i j pos} : JE X (.Constant (.bool i) j pos) (tD K M H0 fun _ => some (.bl i)) := ⟨ve_bl ⟩
theorem ve_non {j pos} : PE X (.Constant .none j pos) (tD K M H0 fun _ => some .non) := ve_c pe_non fun _ _ => by simp only [Den]
theorem j_ve_non {j pos} : JE X (.Constant .none j pos) (tD K M H0 fun _ => some .non) := ⟨ve_non ⟩
theorem ve_str {i j pos} : PE X (.Constant (.str i) j pos) (tD K M H0 fun _ => some (.str i)) := ve_c pe_str fun _ _ => by simp only [Den]

theorem j_ve_str {i j pos} : JE X (.Constant (.str i) j pos) (tD K M H0 fun _ => some (.str i)) := ⟨ve_str ⟩
/-! two operands -/
/-- r is worth F on data -/
def R2D (K : PySem.W.Frag) (r : R2) (F : D → D → Option D) : Prop := ∀ (N : Fb) (H : Hp) (x y : V) (d1 d2 d : D) (Q : VK), (∀ a, N a → H a ≠ none) → DenP K N H d1 x → DenP K N H d2 y → F d1 d2 = some d →
  (∀ v H', Same H H' → Den K N H' d v → Q v H') → r x y H Q
@[simp] def bin2 (F : D → D → Option D) (f g : VE → Option D) : VE → Option D := fun ρ => (f ρ).bind fun x => (g ρ).bind fun y => F x y
theorem bin2_inv {F : D → D → Option D} {f g : VE → Option D} {ρ : VE} {d : D} (h : bin2 F f g ρ = some d) : ∃ x y, f ρ = some x ∧ g ρ = some y ∧ F x y = some d := by
  unfold bin2 at h
  cases hf : f ρ with
  | none => rw [hf] at h; cases h
  | some x =>
    cases hg : g ρ with
    | none => rw [hf, hg] at h; cases h
    | some y => rw [hf, hg] at h; exact ⟨x, y, rfl, rfl, h⟩
theorem tOp_D {r : R2} {F : D → D → Option D} (hr : R2D K r F) {σ : St} {H : Hp} {Q : VK} (h : tD K M H0 (bin2 F f g) σ H Q) : tOp r (tP K M H0 f) (tP K M H0 g) σ H Q := by
  obtain ⟨ρ, d, R, e, q⟩ := h
  try dsimp only at e q
  obtain ⟨x, y, e1, e2, e3⟩ := bin2_inv e
  refine ⟨ρ, x, R, e1, fun v H1 s1 h1 => ⟨ρ, y, R.st s1, e2, fun u H2 s2 h2 => ?_⟩⟩
  exact hr (Nf M ρ σ) H2 v u x y d Q ((R.st s1).st s2).nh (h1.same s2) h2 e3 fun w H3 s3 h3 => q w H3 ((s1.trans s2).trans s3) h3
theorem ve_op {op : Operator} {r : R2} {F : D → D → Option D} (ho : OpR X (binaryOp op) r) (hr : R2D K r F) (ha : PE X a (tP K M H0 f)) (hb : PE X b (tP K M H0 g)) : PE X (.BinOp a op b pos) (tD K M H0 (bin2 F f g)) :=
  (pe_op ho ha hb).mono fun _ _ _ h => tOp_D hr h
theorem ve_cmp {op : CmpOp} {r : R2} {F : D → D → Option D} (ho : OpR X (compareOp op) r) (hr : R2D K r F) (ha : PE X a (tP K M H0 f)) (hb : PE X b (tP K M H0 g)) (hm : behindInMarks op b = false) : PE X (.Compare a [op] [b] pos) (tD K M H0 (bin2 F f g)) :=
  (pe_cmpR ho ha hb hm).mono fun _ _ _ h => tOp_D hr h
theorem ve_ix {r : R2} {F : D → D → Option D} (ho : IxR X r) (hr : R2D K r F) (ha : PE X a (tP K M H0 f)) (hb : PE X b (tP K M H0 g)) (hs : PlainIx b) : PE X (.Subscript a b pos) (tD K M H0 (bin2 F f g)) :=
  (pe_ix ho ha hb hs).mono fun _ _ _ h => tOp_D hr h
@[simp] def orO {α : Type} (a b : Option α) : Option α := match a with
  | some x => some x
  | none => b
theorem R2D.or {r r' : R2} {F F' : D → D → Option D} (h : R2D K r F) (h' : R2D K r' F') : R2D K (fun x y H Q => r x y H Q ∨ r' x y H Q) (fun x y => orO (F x y) (F' x y)) := by
  intro N H x y d1 d2 d Q nh h1 h2 e q
  cases hF : F d1 d2 with
  | some z => simp only [hF, orO] at e; cases e; exact .inl (h N H x y d1 d2 d Q nh h1 h2 hF q)
  | none => simp only [hF, orO] at e; exact .inr (h' N H x y d1 d2 d Q nh h1 h2 e q)

/-! truths -/
@[simp] def asB : Option D → Option Bool
  | some (.bl b) => some b
  | _ => none
theorem asB_some {o : Option D} {b : Bool} (h : asB o = some b) : o = some (.bl b) := by
  unfold asB at h
  split at h
  · cases h; rfl
  · cases h
theorem tTest_D {t : TE} {σ : St} {H : Hp} {Q : Bool → Hp → Prop} (ht : ∀ σ H Q, tD K M H0 f σ H Q → t σ H Q) (h : tB' K M H0 (fun ρ => asB (f ρ)) σ H Q) : tB t σ H Q := by
  obtain ⟨ρ, b, R, e, q⟩ := h
  try dsimp only at e q
  refine ht σ H _ ⟨ρ, .bl b, R, asB_some e, fun v H' s hv => ?_⟩
  simp only [Den] at hv
  exact ⟨b, hv, q H' s⟩
theorem vt_val (h : PE X e (tD K M H0 f)) (he : ∀ whole, isTrue e X.env whole = (do let v ← whole; standAt e.pos; holding [v] (truthy v)) := by intro _; rfl) : PT X e (tB' K M H0 fun ρ => asB (f ρ)) :=
  (pt_val h he).mono fun _ _ _ q => tTest_D (fun _ _ _ z => z) q
theorem vt_cmp {op : CmpOp} {r : R2} {F : D → D → Option D} (ho : OpR X (compareOp op) r) (hr : R2D K r F) (ha : PE X a (tP K M H0 f)) (hb : PE X b (tP K M H0 g)) (hm : behindInMarks op b = false) : PT X (.Compare a [op] [b] pos) (tB' K M H0 fun ρ => asB (bin2 F f g ρ)) :=
  (pt_cmpR ho ha hb hm).mono fun _ _ _ q => tTest_D (t := tOp r (tP K M H0 f) (tP K M H0 g)) (fun _ _ _ z => tOp_D hr z) q
@[simp] def notO (o : Option Bool) : Option Bool := o.map (!·)
@[simp] def andO (o p : Option Bool) : Option Bool := match o with
  | some true => p
  | some false => some false
  | none => none
@[simp] def orB (o p : Option Bool) : Option Bool := match o with
  | some true => some true
  | some false => p
  | none => none
section
variable {c c' : VE → Option Bool} {rest : List Expr}
theorem vt_not (h : PT X a (tB' K M H0 c)) : PT X (.UnaryOp .Not a pos) (tB' K M H0 fun ρ => notO (c ρ)) := (pt_not h).mono fun σ H Q ⟨ρ, b, R, e, q⟩ => by
  try dsimp only at e q
  cases hc : c ρ with
  | none => rw [hc] at e; cases e
  | some k => rw [hc] at e; cases e; exact ⟨ρ, k, R, hc, q⟩
theorem j_vt_not (h : JT X a (tB' K M H0 c)) : JT X (.UnaryOp .Not a pos) (tB' K M H0 fun ρ => notO (c ρ)) := ⟨vt_not h.h⟩
theorem vw_and1 (h : PT X a (tB' K M H0 c)) : PW X (.BoolOp .And [a] pos) (tB' K M H0 c) := pw_and1 h
theorem j_vw_and1 (h : JT X a (tB' K M H0 c)) : JW X (.BoolOp .And [a] pos) (tB' K M H0 c) := ⟨vw_and1 h.h⟩
theorem vw_or1 (h : PT X a (tB' K M H0 c)) : PW X (.BoolOp .Or [a] pos) (tB' K M H0 c) := pw_or1 h
theorem j_vw_or1 (h : JT X a (tB' K M H0 c)) : JW X (.BoolOp .Or [a] pos) (tB' K M H0 c) := ⟨vw_or1 h.h⟩
theorem tAnd_D {σ : St} {H : Hp} {Q : Bool → Hp → Prop} (h : tB' K M H0 (fun ρ => andO (c ρ) (c' ρ)) σ H Q) : tAnd (tB' K M H0 c) (tB' K M H0 c') σ H Q := by
  obtain ⟨ρ, b, R, e, q⟩ := h
  try dsimp only at e q
  cases hc : c ρ with
  | none => rw [hc] at e; cases e
  | some k =>
    cases k with
    | true => rw [hc] at e; exact ⟨ρ, true, R, hc, fun H1 s => by refine ite_t ?_; exact ⟨ρ, b, R.st s, e, fun H2 s2 => q H2 (s.trans s2)⟩⟩
    | false => rw [hc] at e; cases e; exact ⟨ρ, false, R, hc, fun H1 s => by refine ite_f ?_; exact q H1 s⟩
theorem tOr_D {σ : St} {H : Hp} {Q : Bool → Hp → Prop} (h : tB' K M H0 (fun ρ => orB (c ρ) (c' ρ)) σ H Q) : tOr (tB' K M H0 c) (tB' K M H0 c') σ H Q := by
  obtain ⟨ρ, b, R, e, q⟩ := h
  try dsimp only at e q
  cases hc : c ρ with
  | none => rw [hc] at e; cases e
  | some k =>
    cases k with
    | false => rw [hc] at e; exact ⟨ρ, false, R, hc, fun H1 s => by refine ite_f ?_; exact ⟨ρ, b, R.st s, e, fun H2 s2 => q H2 (s.trans s2)⟩⟩
    | true => rw [hc] at e; cases e; exact ⟨ρ, true, R, hc, fun H1 s => by refine ite_t ?_; exact q H1 s⟩
theorem vw_and (h : PT X a (tB' K M H0 c)) (h' : PW X (.BoolOp .And (b :: rest) pos) (tB' K M H0 c')) : PW X (.BoolOp .And (a :: b :: rest) pos) (tB' K M H0 fun ρ => andO (c ρ) (c' ρ)) := (pw_and h h').mono fun _ _ _ q => tAnd_D q
theorem j_vw_and (h : JT X a (tB' K M H0 c)) (h' : JW X (.BoolOp .And (b :: rest) pos) (tB' K M H0 c')) : JW X (.BoolOp .And (a :: b :: rest) pos) (tB' K M H0 fun ρ => andO (c ρ) (c' ρ)) := ⟨vw_and h.h h'.h⟩
theorem vw_or (h : PT X a (tB' K M H0 c)) (h' : PW X (.BoolOp .Or (b :: rest) pos) (tB' K M H0 c')) : PW X (.BoolOp .Or (a :: b :: rest) pos) (tB' K M H0 fun ρ => orB (c ρ) (c' ρ)) := (pw_or h h').mono fun _ _ _ q => tOr_D q
theorem j_vw_or (h : JT X a (tB' K M H0 c)) (h' : JW X (.BoolOp .Or (b :: rest) pos) (tB' K M H0 c')) : JW X (.BoolOp .Or (a :: b :: rest) pos) (tB' K M H0 fun ρ => orB (c ρ) (c' ρ)) := ⟨vw_or h.h h'.h⟩
/-- as values -/
@[simp] def blO (o : Option Bool) : Option D := o.map D.bl
theorem tD_bl {σ : St} {H : Hp} {Q : VK} (h : tD K M H0 (fun ρ => blO (c ρ)) σ H Q) : ∃ ρ b, Rel K M H0 ρ σ H ∧ c ρ = some b ∧ ∀ H', Same H H' → Q (.bl b) H' := by
  obtain ⟨ρ, d, R, e, q⟩ := h
  try dsimp only at e q
  cases hc : c ρ with
  | none => rw [hc] at e; cases e
  | some k => rw [hc] at e; cases e; exact ⟨ρ, k, R, hc, fun H' s => q _ H' s (by simp only [Den])⟩
theorem ve_not (h : PE X a (tD K M H0 f)) : PE X (.UnaryOp .Not a pos) (tD K M H0 fun ρ => blO (notO (asB (f ρ)))) := (pe_not h).mono fun σ H Q q => by
  obtain ⟨ρ, b, R, e, q⟩ := tD_bl q
  try dsimp only at e q
  cases hc : asB (f ρ) with
  | none => rw [hc] at e; cases e
  | some k =>
    rw [hc] at e; cases e
    refine ⟨ρ, .bl k, R, asB_some hc, fun v H' s hv => ?_⟩
    simp only [Den] at hv
    exact ⟨k, hv, q H' s⟩
theorem j_ve_not (h : JE X a (tD K M H0 f)) : JE X (.UnaryOp .Not a pos) (tD K M H0 fun ρ => blO (notO (asB (f ρ)))) := ⟨ve_not h.h⟩
theorem ve_one {op} (h : PE X a (tD K M H0 f)) : PE X (.BoolOp op [a] pos) (tD K M H0 fun ρ => blO (asB (f ρ))) := (pe_one h).mono fun σ H Q q => by
  obtain ⟨ρ, b, R, e, q⟩ := tD_bl q
  try dsimp only at e q
  exact ⟨ρ, .bl b, R, asB_some e, fun v H' s hv => by simp only [Den] at hv; subst hv; exact q H' s⟩
theorem j_ve_one {op} (h : JE X a (tD K M H0 f)) : JE X (.BoolOp op [a] pos) (tD K M H0 fun ρ => blO (asB (f ρ))) := ⟨ve_one h.h⟩
theorem ve_and (h : PE X a (tD K M H0 f)) (h' : PE X (.BoolOp .And (b :: rest) pos) (tD K M H0 fun ρ => blO (c' ρ))) : PE X (.BoolOp .And (a :: b :: rest) pos) (tD K M H0 fun ρ => blO (andO (asB (f ρ)) (c' ρ))) := (pe_and h h').mono fun σ H Q q => by
  obtain ⟨ρ, b, R, e, q⟩ := tD_bl q
  try dsimp only at e q
  cases hc : asB (f ρ) with
  | none => rw [hc] at e; cases e
  | some k =>
    refine ⟨ρ, .bl k, R, asB_some hc, fun v H' s hv => ?_⟩
    simp only [Den] at hv
    refine ⟨k, hv, ?_⟩
    cases k with
    | true =>
      rw [hc] at e; refine ite_t ?_
      have e' : c' ρ = some b := e
      exact ⟨ρ, .bl b, R.st s, by show blO (c' ρ) = _; rw [e']; rfl, fun w H2 s2 hw => by simp only [Den] at hw; subst hw; exact q H2 (s.trans s2)⟩
    | false => rw [hc] at e; cases e; refine ite_f ?_; exact q H' s
theorem j_ve_and (h : JE X a (tD K M H0 f)) (h' : JE X (.BoolOp .And (b :: rest) pos) (tD K M H0 fun ρ => blO (c' ρ))) : JE X (.BoolOp .And (a :: b :: rest) pos) (tD K M H0 fun ρ => blO (andO (asB (f ρ)) (c' ρ))) := ⟨ve_and h.h h'.h⟩
theorem ve_or (h : PE X a (tD K M H0 f)) (h' : PE X (.BoolOp .Or (b :: rest) pos) (tD K M H0 fun ρ => blO (c' ρ))) : PE X (.BoolOp .Or (a :: b :: rest) pos) (tD K M H0 fun ρ => blO (orB (asB (f ρ)) (c' ρ))) := (pe_or h h').mono fun σ H Q q => by
  obtain ⟨ρ, b, R, e, q⟩ := tD_bl q
  try dsimp only at e q
  cases hc : asB (f ρ) with
  | none => rw [hc] at e; cases e
  | some k =>
    refine ⟨ρ, .bl k, R, asB_some hc, fun v H' s hv => ?_⟩
    simp only [Den] at hv
    refine ⟨k, hv, ?_⟩
    cases k with
    | false =>
      rw [hc] at e; refine ite_f ?_
      have e' : c' ρ = some b := e
      exact ⟨ρ, .bl b, R.st s, by show blO (c' ρ) = _; rw [e']; rfl, fun w H2 s2 hw => by simp only [Den] at hw; subst hw; exact q H2 (s.trans s2)⟩
    | true => rw [hc] at e; cases e; refine ite_t ?_; exact q H' s
theorem j_ve_or (h : JE X a (tD K M H0 f)) (h' : JE X (.BoolOp .Or (b :: rest) pos) (tD K M H0 fun ρ => blO (c' ρ))) : JE X (.BoolOp .Or (a :: b :: rest) pos) (tD K M H0 fun ρ => blO (orB (asB (f ρ)) (c' ρ))) := ⟨ve_or h.h h'.h⟩
/-- x if c else y -/
@[simp] def iteO {α : Type} (c : Option Bool) (a b : Option α) : Option α := match c with
  | some true => a
  | some false => b
  | none => none
theorem ve_ifExp {k : Expr} (hc : PT X k (tB' K M H0 c)) (ha : PE X a (tD K M H0 f)) (hb : PE X b (tD K M H0 g)) : PE X (.IfExp k a b pos) (tD K M H0 fun ρ => iteO (c ρ) (f ρ) (g ρ)) := (pe_ifExp hc ha hb).mono fun σ H Q ⟨ρ, d, R, e, q⟩ => by
  try dsimp only at e q
  cases hc : c ρ with
  | none => rw [hc] at e; cases e
  | some k =>
    refine ⟨ρ, k, R, hc, fun H1 s => ?_⟩
    cases k with
    | true => rw [hc] at e; refine ite_t ?_; exact ⟨ρ, d, R.st s, e, fun w H2 s2 hw => q w H2 (s.trans s2) hw⟩
    | false => rw [hc] at e; refine ite_f ?_; exact ⟨ρ, d, R.st s, e, fun w H2 s2 hw => q w H2 (s.trans s2) hw⟩
theorem j_ve_ifExp {k : Expr} (hc : JT X k (tB' K M H0 c)) (ha : JE X a (tD K M H0 f)) (hb : JE X b (tD K M H0 g)) : JE X (.IfExp k a b pos) (tD K M H0 fun ρ => iteO (c ρ) (f ρ) (g ρ)) := ⟨ve_ifExp hc.h ha.h hb.h⟩
/-- is None -/
@[simp] def isN : D → Bool
  | .non => true
  | _ => false
@[simp] def isNO (o : Option D) : Option Bool := o.map isN
theorem DenP.isN {K : PySem.W.Frag} {N : Fb} {H : Hp} {d : D} {v : V} (h : DenP K N H d v) : decide (v = .non) = L2.isN d := by
  cases d with
  | non => simp only [DenP, Den] at h; subst h; rfl
  | bl _ => simp only [DenP, Den] at h; subst h; rfl
  | int _ => simp only [DenP, Den] at h; subst h; rfl
  | str _ => simp only [DenP, Den] at h; subst h; rfl
  | ty _ => simp only [DenP, Den] at h; subst h; rfl
  | tup _ => simp only [DenP, Den] at h; obtain ⟨a, vs, e, _⟩ := h; subst e; rfl
  | lst _ => obtain ⟨a, vs, e, _⟩ := h; subst e; rfl
theorem ve_isN {j pos'} (h : PE X a (tP K M H0 f)) : PE X (.Compare a [.Is] [.Constant .none j pos'] pos) (tD K M H0 fun ρ => blO (isNO (f ρ))) := (pe_cmp (pc_isN h)).mono fun σ H Q q => by
  obtain ⟨ρ, b, R, e, q⟩ := tD_bl q
  try dsimp only at e q
  cases hf : f ρ with
  | none => rw [hf] at e; cases e
  | some d => rw [hf] at e; cases e; exact ⟨ρ, d, R, hf, fun v H' s hv => by dsimp only; rw [hv.isN]; exact q H' s⟩
theorem j_ve_isN {j pos'} (h : JE X a (tP K M H0 f)) : JE X (.Compare a [.Is] [.Constant .none j pos'] pos) (tD K M H0 fun ρ => blO (isNO (f ρ))) := ⟨ve_isN h.h⟩
theorem ve_notN {j pos'} (h : PE X a (tP K M H0 f)) : PE X (.Compare a [.IsNot] [.Constant .none j pos'] pos) (tD K M H0 fun ρ => blO (notO (isNO (f ρ)))) := (pe_cmp (pc_notN h)).mono fun σ H Q q => by
  obtain ⟨ρ, b, R, e, q⟩ := tD_bl q
  try dsimp only at e q
  cases hf : f ρ with
  | none => rw [hf] at e; cases e
  | some d => rw [hf] at e; cases e; exact ⟨ρ, d, R, hf, fun v H' s hv => by dsimp only; rw [hv.isN]; exact q H' s⟩
theorem j_ve_notN {j pos'} (h : JE X a (tP K M H0 f)) : JE X (.Compare a [.IsNot] [.Constant .none j pos'] pos) (tD K M H0 fun ρ => blO (notO (isNO (f ρ)))) := ⟨ve_notN h.h⟩
theorem vt_isN {j pos'} (h : PE X a (tP K M H0 f)) : PT X (.Compare a [.Is] [.Constant .none j pos'] pos) (tB' K M H0 fun ρ => isNO (f ρ)) := (pt_cmp (pc_isN h)).mono fun σ H Q ⟨ρ, b, R, e, q⟩ => by
  try dsimp only at e q
  cases hf : f ρ with
  | none => rw [hf] at e; cases e
  | some d => rw [hf] at e; cases e; exact ⟨ρ, d, R, hf, fun v H' s hv => ⟨_, rfl, by rw [hv.isN]; exact q H' s⟩⟩
theorem j_vt_isN {j pos'} (h : JE X a (tP K M H0 f)) : JT X (.Compare a [.Is] [.Constant .none j pos'] pos) (tB' K M H0 fun ρ => isNO (f ρ)) := ⟨vt_isN h.h⟩
theorem vt_notN {j pos'} (h : PE X a (tP K M H0 f)) : PT X (.Compare a [.IsNot] [.Constant .none j pos'] pos) (tB' K M H0 fun ρ => notO (isNO (f ρ))) := (pt_cmp (pc_notN h)).mono fun σ H Q ⟨ρ, b, R, e, q⟩ => by
  try dsimp only at e q
  cases hf : f ρ with
  | none => rw [hf] at e; cases e
  | some d => rw [hf] at e; cases e; exact ⟨ρ, d, R, hf, fun v H' s hv => ⟨_, rfl, by rw [hv.isN]; exact q H' s⟩⟩
theorem j_vt_notN {j pos'} (h : JE X a (tP K M H0 f)) : JT X (.Compare a [.IsNot] [.Constant .none j pos'] pos) (tB' K M H0 fun ρ => notO (isNO (f ρ))) := ⟨vt_notN h.h⟩
end
end
end L2

set_option Elab.async false
set_option linter.all false
set_option maxRecDepth 100000
namespace L2
open PySem PySem.Spec PyProof.Rows

theorem star_c {e : Expr} {es : List Expr} {env : Env} (h : ∀ x p, e ≠ .Starred x p) : starEach (e :: es) env = (false, eval e env) :: starEach es env := by
  cases e with
  | Starred x p => exact absurd rfl (h x p)
  | _ => rfl
/-! ### arguments: data, or a list that is lent -/
def ArgOk (K : PySem.W.Frag) (N : Fb) (H : Hp) : Sl → V → Prop
  | .val d, v => Den K N H d v
  | .lent xs, v => ∃ a vs, v = .ref a ∧ N a ∧ Rd H a (.lst vs) ∧ DenL K N H xs vs
  | _, _ => False
def ArgsOk (K : PySem.W.Frag) (N : Fb) (H : Hp) : List Sl → List V → Prop
  | [], vs => vs = []
  | s :: ss, vs => ∃ v r, vs = v :: r ∧ ArgOk K N H s v ∧ ArgsOk K N H ss r
/-- what is read of a slot -/
@[simp] def pk : Sl → Option D
  | .val d => some d
  | .lent xs => some (.lst xs)
  | .own xs => some (.lst xs)
  | .no => none
theorem ArgOk.same {K : PySem.W.Frag} {N : Fb} {H H' : Hp} {s : Sl} {v : V} (h : ArgOk K N H s v) (sm : Same H H') : ArgOk K N H' s v := by
  cases s with
  | val d => exact Den.same h sm
  | lent xs => obtain ⟨a, vs, e, n, q, r⟩ := h; exact ⟨a, vs, e, n, q.same sm, r.same sm⟩
  | no => exact h
  | own xs => exact h
theorem ArgsOk.same {K : PySem.W.Frag} {N : Fb} {H H' : Hp} (sm : Same H H') : ∀ {ss : List Sl} {vs : List V}, ArgsOk K N H ss vs → ArgsOk K N H' ss vs
  | [], _, h => h
  | s :: ss, _, ⟨v, r, e, h, t⟩ => ⟨v, r, e, h.same sm, ArgsOk.same sm t⟩
theorem ArgOk.p {K : PySem.W.Frag} {N : Fb} {H : Hp} {s : Sl} {v : V} (h : ArgOk K N H s v) : ∃ d, pk s = some d ∧ DenP K N H d v := by
  cases s with
  | val d => exact ⟨d, rfl, Den.p h⟩
  | lent xs => obtain ⟨a, vs, e, n, q, r⟩ := h; exact ⟨_, rfl, a, vs, e, .inl q, r⟩
  | no => exact False.elim h
  | own xs => exact False.elim h
theorem ArgsOk.length {K : PySem.W.Frag} {N : Fb} {H : Hp} : ∀ {ss : List Sl} {vs : List V}, ArgsOk K N H ss vs → ss.length = vs.length
  | [], _, h => by cases h; rfl
  | s :: ss, _, ⟨v, r, e, h, t⟩ => by subst e; simp [ArgsOk.length t]
theorem ArgsOk.get {K : PySem.W.Frag} {N : Fb} {H : Hp} : ∀ {ss : List Sl} {vs : List V} {i : Nat} {s : Sl}, ArgsOk K N H ss vs → ss[i]? = some s → ∃ v, vs[i]? = some v ∧ ArgOk K N H s v
  | [], _, i, s, h, e => by simp at e
  | _ :: ss, _, 0, s, ⟨v, r, e1, h, t⟩, e => by subst e1; simp at e; subst e; exact ⟨v, rfl, h⟩
  | _ :: ss, _, i + 1, s, ⟨v, r, e1, h, t⟩, e => by
    subst e1
    obtain ⟨w, h1, h2⟩ := ArgsOk.get (i := i) t (by simpa using e)
    exact ⟨w, by simpa using h1, h2⟩
def tA' (K : PySem.W.Frag) (M : Fb) (H0 : Hp) (f : VE → Option (List Sl)) : TA := fun σ H Q => ∃ ρ ss, Rel K M H0 ρ σ H ∧ f ρ = some ss ∧ ∀ vs H', Same H H' → ArgsOk K (Nf M ρ σ) H' ss vs → Q vs H'
/-- one argument -/
def tS1 (K : PySem.W.Frag) (M : Fb) (H0 : Hp) (f : VE → Option Sl) : TE := fun σ H Q => ∃ ρ s, Rel K M H0 ρ σ H ∧ f ρ = some s ∧ ∀ v H', Same H H' → ArgOk K (Nf M ρ σ) H' s v → Q v H'
/-- a variable as an argument: what is owned is lent -/
@[simp] def rdA (ρ : VE) (i : Nat) : Option Sl := match ρ[i]? with
  | some (.val d) => some (.val d)
  | some (.own xs) => some (.lent xs)
  | some (.lent xs) => some (.lent xs)
  | _ => none
@[simp] def valO (o : Option D) : Option Sl := o.map Sl.val
@[simp] def consO {α : Type} (a : Option α) (b : Option (List α)) : Option (List α) := a.bind fun x => b.bind fun y => some (x :: y)
theorem consO_inv {α : Type} {a : Option α} {b : Option (List α)} {l : List α} (h : consO a b = some l) : ∃ x y, a = some x ∧ b = some y ∧ l = x :: y := by
  cases a with
  | none => cases h
  | some x =>
    cases b with
    | none => cases h
    | some y => cases h; exact ⟨x, y, rfl, rfl, rfl⟩
section
variable {X : Cx} {K : PySem.W.Frag} {M : Fb} {H0 : Hp} {e a b : Expr} {es : List Expr} {f g : VE → Option D} {fa : VE → Option (List Sl)} {f1 : VE → Option Sl} {pos : Pos}
theorem va_var {i : Nat} {x : Str} (hN : X.N[i]? = some x) (hv : Vis X.env.scope x) (hd : (x == ("__debug__" : Str)) = false := by decide) (hcd : (x == ("__classdict__" : Str)) = false := by decide) : PE X (.Name x pos) (tS1 K M H0 fun ρ => rdA ρ i) :=
  (pe_var hN hv hd hcd).mono fun σ H Q ⟨ρ, d, R, e, q⟩ => by
    try dsimp only at e q
    have fin : ∀ v, σ[i]?.join = some v → ArgOk K (Nf M ρ σ) H d v → ∃ v, σ[i]? = some (some v) ∧ Q v H := fun v e1 h => by
      refine ⟨v, ?_, q v H (Same.refl H) h⟩
      cases z : σ[i]? with
      | none => rw [z] at e1; cases e1
      | some o => rw [z] at e1; cases e1; rfl
    unfold rdA at e
    split at e
    · next h => cases e; obtain ⟨v, e1, h⟩ := R.slot i _ h; exact fin v e1 h
    · next h =>
      cases e
      obtain ⟨a, vs, e1, _, _, h3, h4⟩ := R.slot i _ h
      refine fin _ e1 ⟨a, vs, rfl, .inr ⟨i, _, h, ?_⟩, .inl h3, h4⟩
      cases z : σ[i]? with
      | none => rw [z] at e1; cases e1
      | some o => rw [z] at e1; cases e1; rfl
    · next h => cases e; obtain ⟨a, vs, e1, h2, h3, h4⟩ := R.slot i _ h; exact fin _ e1 ⟨a, vs, rfl, .inl h2, h3, h4⟩
    · cases e
theorem va_e (h : PE X e (tD K M H0 f)) : PE X e (tS1 K M H0 fun ρ => valO (f ρ)) := h.mono fun σ H Q ⟨ρ, s, R, e, q⟩ => by
  try dsimp only at e q
  cases hf : f ρ with
  | none => rw [hf] at e; cases e
  | some d => rw [hf] at e; cases e; exact ⟨ρ, d, R, hf, fun v H' s hv => q v H' s hv⟩
theorem j_va_e (h : JE X e (tD K M H0 f)) : JE X e (tS1 K M H0 fun ρ => valO (f ρ)) := ⟨va_e h.h⟩
theorem va_nil : PA X [] (tA' K M H0 fun _ => some []) := pa_nil.mono fun σ H Q ⟨ρ, ss, R, e, q⟩ => by
  try dsimp only at e q
  cases e; exact q [] H (Same.refl H) rfl
theorem j_va_nil  : JA X [] (tA' K M H0 fun _ => some []) := ⟨va_nil ⟩
theorem va_cons (h : PE X e (tS1 K M H0 f1)) (hr : PA X es (tA' K M H0 fa)) (hs : starEach (e :: es) X.env = (false, eval e X.env) :: starEach es X.env := by exact star_c (fun _ _ z => nomatch z)) : PA X (e :: es) (tA' K M H0 fun ρ => consO (f1 ρ) (fa ρ)) := (pa_cons h hr hs).mono fun σ H Q ⟨ρ, ss, R, e, q⟩ => by
  try dsimp only at e q
  obtain ⟨s, r, e1, e2, e3⟩ := consO_inv e
  subst e3
  exact ⟨ρ, s, R, e1, fun v H1 s1 h1 => ⟨ρ, r, R.st s1, e2, fun vs H2 s2 h2 => q (v :: vs) H2 (s1.trans s2) ⟨v, vs, rfl, h1.same s2, h2⟩⟩⟩

theorem j_va_cons (h : JE X e (tS1 K M H0 f1)) (hr : JA X es (tA' K M H0 fa)) (hs : starEach (e :: es) X.env = (false, eval e X.env) :: starEach es X.env := by exact star_c (fun _ _ z => nomatch z)) : JA X (e :: es) (tA' K M H0 fun ρ => consO (f1 ρ) (fa ρ)) := ⟨va_cons h.h hr.h hs⟩
/-! displays -/
@[simp] def vals : List Sl → Option (List D)
  | [] => some []
  | .val d :: r => consO (some d) (vals r)
  | _ => none
theorem vals_den {K : PySem.W.Frag} {N : Fb} {H : Hp} : ∀ {ss : List Sl} {vs : List V} {ds : List D}, ArgsOk K N H ss vs → vals ss = some ds → DenL K N H ds vs
  | [], _, _, h, e => by cases e; cases h; exact DenL.nil
  | .val d :: r, _, _, ⟨v, t, e1, h, ht⟩, e => by
    obtain ⟨x, y, e2, e3, e4⟩ := consO_inv e
    cases e2; subst e1 e4
    exact DenL.cons h (vals_den ht e3)
  | .no :: _, _, _, _, e => nomatch e
  | .own _ :: _, _, _, _, e => nomatch e
  | .lent _ :: _, _, _, _, e => nomatch e
@[simp] def shortO {α : Type} (o : Option (List α)) : Option (List α) := o.bind fun l => if l.length ≤ sizeLine then some l else none
theorem shortO_inv {α : Type} {o : Option (List α)} {l : List α} (h : shortO o = some l) : o = some l ∧ l.length ≤ sizeLine := by
  cases o with
  | none => cases h
  | some x =>
    have h' : (if x.length ≤ sizeLine then some x else none) = some l := h
    split at h'
    · cases h'; exact ⟨rfl, by assumption⟩
    · cases h'
theorem same_new {H : Hp} {p : Addr} {o : HO} (h : H p = none) : Same H (upd H p o) := fun b u e => by rw [upd_ne (ne_of_none e h)]; exact e
/-- a new list is laid -/
theorem tF_new {ρ : VE} {σ : St} {H H1 : Hp} {Q : VK} {xs : List D} {vs : List V} {p : Addr} (s : Same H H1) (hp : H1 p = none) (h : DenL K (Nf M ρ σ) H1 xs vs)
    (q : ∀ a vs H', Same H H' → H a = none → H' a = some (.lst vs) → DenL K (fun b => Nf M ρ σ b ∨ b = a) H' xs vs → Q (.ref a) H') : Q (.ref p) (upd H1 p (.lst vs)) := by
  refine q p vs _ (s.trans (same_new hp)) (s.free hp) upd_same ?_
  refine (h.nw fun b hb => ?_).same (same_new hp)
  rcases hb with hb | hb
  · exact .inl hb
  · subst hb; exact .inr hp
theorem vf_lst (h : PA X es (tA' K M H0 fa)) : PE X (.List es pos) (tF K M H0 fun ρ => shortO ((fa ρ).bind vals)) := (pe_lst h).mono fun σ H Q ⟨ρ, xs, R, e, q⟩ => by
  try dsimp only at e q
  obtain ⟨e, hz⟩ := shortO_inv e
  cases hf : fa ρ with
  | none => rw [hf] at e; cases e
  | some ss =>
    rw [hf] at e
    refine ⟨ρ, ss, R, hf, fun vs H1 s1 h1 => ?_⟩
    have hd := vals_den h1 e
    exact ⟨by rw [← hd.length]; exact hz, fun p hp => tF_new s1 hp hd q⟩
theorem j_vf_lst (h : JA X es (tA' K M H0 fa)) : JE X (.List es pos) (tF K M H0 fun ρ => shortO ((fa ρ).bind vals)) := ⟨vf_lst h.h⟩
theorem ve_tup {x1} (h : PA X es (tA' K M H0 fa)) : PE X (.Tuple es x1 pos) (tD K M H0 fun ρ => (shortO ((fa ρ).bind vals)).map D.tup) := (pe_tup h).mono fun σ H Q ⟨ρ, d, R, e, q⟩ => by
  try dsimp only at e q
  cases hz : shortO ((fa ρ).bind vals) with
  | none => rw [hz] at e; cases e
  | some xs =>
    rw [hz] at e; cases e
    obtain ⟨e, hz⟩ := shortO_inv hz
    cases hf : fa ρ with
    | none => rw [hf] at e; cases e
    | some ss =>
      rw [hf] at e
      refine ⟨ρ, ss, R, hf, fun vs H1 s1 h1 => ?_⟩
      have hd := vals_den h1 e
      refine ⟨by rw [← hd.length]; exact hz, fun p hp => q _ _ (s1.trans (same_new hp)) ?_⟩
      simp only [Den]
      exact ⟨p, vs, rfl, SqT.of upd_same, hd.same (same_new hp)⟩
theorem j_ve_tup {x1} (h : JA X es (tA' K M H0 fa)) : JE X (.Tuple es x1 pos) (tD K M H0 fun ρ => (shortO ((fa ρ).bind vals)).map D.tup) := ⟨ve_tup h.h⟩
end

/-! ### what a def hands back -/
inductive Rv where
  | val (d : D) | own (xs : List D)
def RvOk (K : PySem.W.Frag) (N : Fb) (H0 H' : Hp) : Rv → V → Prop
  | .val d, v => Den K N H' d v
  | .own xs, v => ∃ a vs, v = .ref a ∧ H0 a = none ∧ H' a = some (.lst vs) ∧ DenL K (fun b => N b ∨ b = a) H' xs vs
/-- the promise of a def that is worth F -/
def spD (K : PySem.W.Frag) (F : List Sl → Option Rv) : Sp := fun vs H Q _ => ∃ N ss r, (∀ a, N a → H a ≠ none) ∧ ArgsOk K N H ss vs ∧ F ss = some r ∧ ∀ v H', Same H H' → RvOk K N H H' r v → Q v H'
@[simp] def rvD : Rv → D
  | .val d => d
  | .own xs => .lst xs
@[simp] def rvF : Rv → Option (List D)
  | .own xs => some xs
  | _ => none
section
variable {X : Cx} {K : PySem.W.Frag} {M : Fb} {H0 : Hp} {e : Expr} {es : List Expr} {fa : VE → Option (List Sl)} {F : List Sl → Option Rv} {CX : CXT} {k : Nat} {fn : Addr} {fd : FuncData} {ps : List Str} {x : Str} {p pos : Pos} {E : XK}
@[simp] def callO (F : List Sl → Option Rv) (fa : VE → Option (List Sl)) : VE → Option D := fun ρ => (fa ρ).bind fun ss => (F ss).map rvD
@[simp] def callF (F : List Sl → Option Rv) (fa : VE → Option (List Sl)) : VE → Option (List D) := fun ρ => (fa ρ).bind fun ss => (F ss).bind rvF
theorem tCall_D {σ : St} {H : Hp} {Q : VK} (h : tD K M H0 (callO F fa) σ H Q) : tCall (spD K F) [] E (tA' K M H0 fa) σ H Q := by
  obtain ⟨ρ, d, R, e, q⟩ := h
  try dsimp only at e q
  unfold callO at e
  cases hf : fa ρ with
  | none => rw [hf] at e; cases e
  | some ss =>
    rw [hf] at e
    cases hF : F ss with
    | none => simp only [Option.bind, hF] at e; cases e
    | some r =>
      simp only [Option.bind, hF] at e; cases e
      refine ⟨ρ, ss, R, hf, fun vs H1 s1 h1 => ⟨Nf M ρ σ, ss, r, (R.st s1).nh, by rw [List.append_nil]; exact h1, hF, fun v H2 s2 h2 => q v H2 (s1.trans s2) ?_⟩⟩
      cases r with
      | val d => exact h2
      | own xs =>
        obtain ⟨a, ws, e1, z1, z2, z3⟩ := h2
        simp only [rvD, Den]
        exact ⟨a, ws, e1, .of (fun z => (R.st s1).fresh z1 z) z2, z3.nw fun b hb => .inl (.inl hb)⟩
theorem tCall_F {σ : St} {H : Hp} {Q : VK} (h : tF K M H0 (callF F fa) σ H Q) : tCall (spD K F) [] E (tA' K M H0 fa) σ H Q := by
  obtain ⟨ρ, d, R, e, q⟩ := h
  try dsimp only at e q
  unfold callF at e
  cases hf : fa ρ with
  | none => rw [hf] at e; cases e
  | some ss =>
    rw [hf] at e
    cases hF : F ss with
    | none => simp only [Option.bind, hF] at e; cases e
    | some r =>
      simp only [Option.bind, hF] at e
      cases r with
      | val d => cases e
      | own xs =>
        cases e
        refine ⟨ρ, ss, R, hf, fun vs H1 s1 h1 => ⟨Nf M ρ σ, ss, _, (R.st s1).nh, by rw [List.append_nil]; exact h1, hF, fun v H2 s2 h2 => ?_⟩⟩
        obtain ⟨a, ws, e1, z1, z2, z3⟩ := h2
        subst e1
        exact q a ws H2 (s1.trans s2) (s1.free z1) z2 z3
theorem ve_call (G : FnOk X.prog X.w X.K X.mg X.base CX k fn fd ps (spD K F)) (hr : Room k X.A) (hg : Gl X x) (hm : X.mg x = some (.ref fn)) (hk : PySem.W.keepIn X.K (.ref fn) = true) (hb : Binds X.K fd ps []) (hx : Passes CX X E)
    (ha : PA X (e :: es) (tA' K M H0 fa)) (hdb : (x == ("__debug__" : Str)) = false := by decide) (he : starEach (e :: es) X.env = (false, eval e X.env) :: starEach es X.env := by exact star_c (fun _ _ z => nomatch z)) (hpl : (backTo pos (starEach es X.env)).any (·.1) = false := by rfl) :
    PE X (.Call (.Name x p) (e :: es) [] pos) (tD K M H0 (callO F fa)) := (pe_call G hr hg hm hk hb .nil hx ha hdb he hpl).mono fun _ _ _ h => tCall_D h
theorem j_ve_call (G : FnOk X.prog X.w X.K X.mg X.base CX k fn fd ps (spD K F)) (hr : Room k X.A) (hg : Gl X x) (hm : X.mg x = some (.ref fn)) (hk : PySem.W.keepIn X.K (.ref fn) = true) (hb : Binds X.K fd ps []) (hx : Passes CX X E) (ha : JA X (e :: es) (tA' K M H0 fa)) (hdb : (x == ("__debug__" : Str)) = false := by decide) (he : starEach (e :: es) X.env = (false, eval e X.env) :: starEach es X.env := by exact star_c (fun _ _ z => nomatch z)) (hpl : (backTo pos (starEach es X.env)).any (·.1) = false := by rfl) : JE X (.Call (.Name x p) (e :: es) [] pos) (tD K M H0 (callO F fa)) := ⟨ve_call G hr hg hm hk hb hx ha.h hdb he hpl⟩
theorem vf_call (G : FnOk X.prog X.w X.K X.mg X.base CX k fn fd ps (spD K F)) (hr : Room k X.A) (hg : Gl X x) (hm : X.mg x = some (.ref fn)) (hk : PySem.W.keepIn X.K (.ref fn) = true) (hb : Binds X.K fd ps []) (hx : Passes CX X E)
    (ha : PA X (e :: es) (tA' K M H0 fa)) (hdb : (x == ("__debug__" : Str)) = false := by decide) (he : starEach (e :: es) X.env = (false, eval e X.env) :: starEach es X.env := by exact star_c (fun _ _ z => nomatch z)) (hpl : (backTo pos (starEach es X.env)).any (·.1) = false := by rfl) :
    PE X (.Call (.Name x p) (e :: es) [] pos) (tF K M H0 (callF F fa)) := (pe_call G hr hg hm hk hb .nil hx ha hdb he hpl).mono fun _ _ _ h => tCall_F h
theorem j_vf_call (G : FnOk X.prog X.w X.K X.mg X.base CX k fn fd ps (spD K F)) (hr : Room k X.A) (hg : Gl X x) (hm : X.mg x = some (.ref fn)) (hk : PySem.W.keepIn X.K (.ref fn) = true) (hb : Binds X.K fd ps []) (hx : Passes CX X E) (ha : JA X (e :: es) (tA' K M H0 fa)) (hdb : (x == ("__debug__" : Str)) = false := by decide) (he : starEach (e :: es) X.env = (false, eval e X.env) :: starEach es X.env := by exact star_c (fun _ _ z => nomatch z)) (hpl : (backTo pos (starEach es X.env)).any (·.1) = false := by rfl) : JE X (.Call (.Name x p) (e :: es) [] pos) (tF K M H0 (callF F fa)) := ⟨vf_call G hr hg hm hk hb hx ha.h hdb he hpl⟩
end

/-! ### calls of builtins -/
/-- r is worth F on data (read only) -/
def RcD (K : PySem.W.Frag) (r : List V → Hp → VK → Prop) (F : List D → Option D) : Prop := ∀ (N : Fb) (H : Hp) (vs : List V) (ds : List D) (d : D) (Q : VK), (∀ a, N a → H a ≠ none) → Paired (DenP K N H) ds vs → F ds = some d →
  (∀ v H', Same H H' → Den K N H' d v → Q v H') → r vs H Q
/-- .. that makes a list -/
def RcF (K : PySem.W.Frag) (r : List V → Hp → VK → Prop) (F : List D → Option (List D)) : Prop := ∀ (N : Fb) (H : Hp) (vs : List V) (ds : List D) (xs : List D) (Q : VK), (∀ a, N a → H a ≠ none) → Paired (DenP K N H) ds vs → F ds = some xs →
  (∀ ws p, H p = none → DenL K N H xs ws → Q (.ref p) (upd H p (.lst ws))) → r vs H Q
@[simp] def pks : List Sl → Option (List D)
  | [] => some []
  | s :: r => consO (pk s) (pks r)
theorem pks_den {K : PySem.W.Frag} {N : Fb} {H : Hp} : ∀ {ss : List Sl} {vs : List V} {ds : List D}, ArgsOk K N H ss vs → pks ss = some ds → Paired (DenP K N H) ds vs
  | [], _, _, h, e => by cases e; cases h; exact .nil
  | s :: r, _, _, ⟨v, t, e1, h, ht⟩, e => by
    obtain ⟨x, y, e2, e3, e4⟩ := consO_inv e
    subst e1 e4
    obtain ⟨d, hd, hp⟩ := h.p
    rw [hd] at e2; cases e2
    exact .cons hp (pks_den ht e3)
section
variable {X : Cx} {K : PySem.W.Frag} {M : Fb} {H0 : Hp} {e : Expr} {es : List Expr} {fa : VE → Option (List Sl)} {x : Str} {p pos : Pos} {r : List V → Hp → VK → Prop} {F : List D → Option D} {G : List D → Option (List D)} {id : String}
@[simp] def bltO (F : List D → Option D) (fa : VE → Option (List Sl)) : VE → Option D := fun ρ => ((fa ρ).bind pks).bind F
@[simp] def bltF (F : List D → Option (List D)) (fa : VE → Option (List Sl)) : VE → Option (List D) := fun ρ => ((fa ρ).bind pks).bind F
theorem tCB_D (hr : RcD K r F) {σ : St} {H : Hp} {Q : VK} (h : tD K M H0 (bltO F fa) σ H Q) : tCB r (tA' K M H0 fa) σ H Q := by
  obtain ⟨ρ, d, R, e, q⟩ := h
  try dsimp only at e q
  unfold bltO at e
  cases hf : fa ρ with
  | none => rw [hf] at e; cases e
  | some ss =>
    rw [hf] at e
    cases hp : pks ss with
    | none => simp only [Option.bind, hp] at e; cases e
    | some ds =>
      simp only [Option.bind, hp] at e
      exact ⟨ρ, ss, R, hf, fun vs H1 s1 h1 => hr (Nf M ρ σ) H1 vs ds d Q (R.st s1).nh (pks_den h1 hp) e fun v H' s hv => q v H' (s1.trans s) hv⟩
theorem tCB_F (hr : RcF K r G) {σ : St} {H : Hp} {Q : VK} (h : tF K M H0 (bltF G fa) σ H Q) : tCB r (tA' K M H0 fa) σ H Q := by
  obtain ⟨ρ, d, R, e, q⟩ := h
  try dsimp only at e q
  unfold bltF at e
  cases hf : fa ρ with
  | none => rw [hf] at e; cases e
  | some ss =>
    rw [hf] at e
    cases hp : pks ss with
    | none => simp only [Option.bind, hp] at e; cases e
    | some ds =>
      simp only [Option.bind, hp] at e
      exact ⟨ρ, ss, R, hf, fun vs H1 s1 h1 => hr (Nf M ρ σ) H1 vs ds d Q (R.st s1).nh (pks_den h1 hp) e fun ws p hp hv => tF_new s1 hp hv q⟩
theorem ve_callB (hc : CallR X (.builtin id) r) (hF : RcD K r F) (hg : Gl X x) (hm : X.mg x = none) (hv : bootBuiltins x = some (.builtin id)) (ha : PA X (e :: es) (tA' K M H0 fa)) (hn : x ≠ "__name__" := by decide) (hdb : (x == ("__debug__" : Str)) = false := by decide)
    (he : starEach (e :: es) X.env = (false, eval e X.env) :: starEach es X.env := by exact star_c (fun _ _ z => nomatch z)) (hpl : (backTo pos (starEach es X.env)).any (·.1) = false := by rfl) : PE X (.Call (.Name x p) (e :: es) [] pos) (tD K M H0 (bltO F fa)) :=
  (pe_callB hc hg hm hv ha hn hdb he hpl).mono fun _ _ _ h => tCB_D hF h
theorem j_ve_callB (hc : CallR X (.builtin id) r) (hF : RcD K r F) (hg : Gl X x) (hm : X.mg x = none) (hv : bootBuiltins x = some (.builtin id)) (ha : JA X (e :: es) (tA' K M H0 fa)) (hn : x ≠ "__name__" := by decide) (hdb : (x == ("__debug__" : Str)) = false := by decide) (he : starEach (e :: es) X.env = (false, eval e X.env) :: starEach es X.env := by exact star_c (fun _ _ z => nomatch z)) (hpl : (backTo pos (starEach es X.env)).any (·.1) = false := by rfl) : JE X (.Call (.Name x p) (e :: es) [] pos) (tD K M H0 (bltO F fa)) := ⟨ve_callB hc hF hg hm hv ha.h hn hdb he hpl⟩
theorem vf_callB (hc : CallR X (.builtin id) r) (hF : RcF K r G) (hg : Gl X x) (hm : X.mg x = none) (hv : bootBuiltins x = some (.builtin id)) (ha : PA X (e :: es) (tA' K M H0 fa)) (hn : x ≠ "__name__" := by decide) (hdb : (x == ("__debug__" : Str)) = false := by decide)
    (he : starEach (e :: es) X.env = (false, eval e X.env) :: starEach es X.env := by exact star_c (fun _ _ z => nomatch z)) (hpl : (backTo pos (starEach es X.env)).any (·.1) = false := by rfl) : PE X (.Call (.Name x p) (e :: es) [] pos) (tF K M H0 (bltF G fa)) :=
  (pe_callB hc hg hm hv ha hn hdb he hpl).mono fun _ _ _ h => tCB_F hF h
theorem j_vf_callB (hc : CallR X (.builtin id) r) (hF : RcF K r G) (hg : Gl X x) (hm : X.mg x = none) (hv : bootBuiltins x = some (.builtin id)) (ha : JA X (e :: es) (tA' K M H0 fa)) (hn : x ≠ "__name__" := by decide) (hdb : (x == ("__debug__" : Str)) = false := by decide) (he : starEach (e :: es) X.env = (false, eval e X.env) :: starEach es X.env := by exact star_c (fun _ _ z => nomatch z)) (hpl : (backTo pos (starEach es X.env)).any (·.1) = false := by rfl) : JE X (.Call (.Name x p) (e :: es) [] pos) (tF K M H0 (bltF G fa)) := ⟨vf_callB hc hF hg hm hv ha.h hn hdb he hpl⟩
theorem ve_callTy (hc : CallR X (.type id) r) (hF : RcD K r F) (hg : Gl X x) (hm : X.mg x = none) (hv : bootBuiltins x = some (.type id)) (ha : PA X (e :: es) (tA' K M H0 fa)) (hn : x ≠ "__name__" := by decide) (hdb : (x == ("__debug__" : Str)) = false := by decide)
    (he : starEach (e :: es) X.env = (false, eval e X.env) :: starEach es X.env := by exact star_c (fun _ _ z => nomatch z)) (hpl : (backTo pos (starEach es X.env)).any (·.1) = false := by rfl) : PE X (.Call (.Name x p) (e :: es) [] pos) (tD K M H0 (bltO F fa)) :=
  (pe_callTy hc hg hm hv ha hn hdb he hpl).mono fun _ _ _ h => tCB_D hF h
theorem j_ve_callTy (hc : CallR X (.type id) r) (hF : RcD K r F) (hg : Gl X x) (hm : X.mg x = none) (hv : bootBuiltins x = some (.type id)) (ha : JA X (e :: es) (tA' K M H0 fa)) (hn : x ≠ "__name__" := by decide) (hdb : (x == ("__debug__" : Str)) = false := by decide) (he : starEach (e :: es) X.env = (false, eval e X.env) :: starEach es X.env := by exact star_c (fun _ _ z => nomatch z)) (hpl : (backTo pos (starEach es X.env)).any (·.1) = false := by rfl) : JE X (.Call (.Name x p) (e :: es) [] pos) (tD K M H0 (bltO F fa)) := ⟨ve_callTy hc hF hg hm hv ha.h hn hdb he hpl⟩
theorem vf_callTy (hc : CallR X (.type id) r) (hF : RcF K r G) (hg : Gl X x) (hm : X.mg x = none) (hv : bootBuiltins x = some (.type id)) (ha : PA X (e :: es) (tA' K M H0 fa)) (hn : x ≠ "__name__" := by decide) (hdb : (x == ("__debug__" : Str)) = false := by decide)
    (he : starEach (e :: es) X.env = (false, eval e X.env) :: starEach es X.env := by exact star_c (fun _ _ z => nomatch z)) (hpl : (backTo pos (starEach es X.env)).any (·.1) = false := by rfl) : PE X (.Call (.Name x p) (e :: es) [] pos) (tF K M H0 (bltF G fa)) :=
  (pe_callTy hc hg hm hv ha hn hdb he hpl).mono fun _ _ _ h => tCB_F hF h
theorem j_vf_callTy (hc : CallR X (.type id) r) (hF : RcF K r G) (hg : Gl X x) (hm : X.mg x = none) (hv : bootBuiltins x = some (.type id)) (ha : JA X (e :: es) (tA' K M H0 fa)) (hn : x ≠ "__name__" := by decide) (hdb : (x == ("__debug__" : Str)) = false := by decide) (he : starEach (e :: es) X.env = (false, eval e X.env) :: starEach es X.env := by exact star_c (fun _ _ z => nomatch z)) (hpl : (backTo pos (starEach es X.env)).any (·.1) = false := by rfl) : JE X (.Call (.Name x p) (e :: es) [] pos) (tF K M H0 (bltF G fa)) := ⟨vf_callTy hc hF hg hm hv ha.h hn hdb he hpl⟩
theorem RcD.or {r r' : List V → Hp → VK → Prop} {F F' : List D → Option D} (h : RcD K r F) (h' : RcD K r' F') : RcD K (fun xs H Q => r xs H Q ∨ r' xs H Q) (fun ds => orO (F ds) (F' ds)) := by
  intro N H vs ds d Q nh h1 e q
  cases hF : F ds with
  | some z => simp only [hF, orO] at e; cases e; exact .inl (h N H vs ds d Q nh h1 hF q)
  | none => simp only [hF, orO] at e; exact .inr (h' N H vs ds d Q nh h1 e q)
end

/-! ### statements -/
inductive Res where
  | fail | next (ρ : VE) | brk (ρ : VE) | cont (ρ : VE) | ret (r : Rv)
/-- what is wanted behind a statement whose slots are ρ -/
def Beh (K : PySem.W.Frag) (M : Fb) (H0 : Hp) (ρ : VE) (σ : St) (H : Hp) (ρ' : VE) (Q : St → Hp → Prop) : Prop := ∀ σ' H', Rel K M H0 ρ' σ' H' → Step M (Nf M ρ σ) (Nf M ρ' σ') H H' → Q σ' H'
def resOk (K : PySem.W.Frag) (M : Fb) (H0 : Hp) (ρ : VE) (σ : St) (H : Hp) (D : Ends) : Res → Prop
  | .fail => False
  | .next ρ' => Beh K M H0 ρ σ H ρ' D.nx
  | .brk ρ' => Beh K M H0 ρ σ H ρ' D.bk
  | .cont ρ' => Beh K M H0 ρ σ H ρ' D.ct
  | .ret r => ∀ v H', Same H0 H' → RvOk K M H0 H' r v → D.rt v H'
def tS (K : PySem.W.Frag) (M : Fb) (H0 : Hp) (g : VE → Res) : TS := fun D σ H => ∃ ρ, Rel K M H0 ρ σ H ∧ resOk K M H0 ρ σ H D (g ρ)
@[simp] def seqR (a : Res) (g : VE → Res) : Res := match a with
  | .next ρ => g ρ
  | r => r
/-- from a later point to an earlier one -/
theorem Beh.from {K : PySem.W.Frag} {M : Fb} {H0 : Hp} {ρ ρ1 ρ' : VE} {σ σ1 : St} {H H1 : Hp} {Q : St → Hp → Prop} (s : Step M (Nf M ρ σ) (Nf M ρ1 σ1) H H1) (h : Beh K M H0 ρ σ H ρ' Q) : Beh K M H0 ρ1 σ1 H1 ρ' Q :=
  fun σ' H' R s' => h σ' H' R (s.trans s')
theorem resOk.from {K : PySem.W.Frag} {M : Fb} {H0 : Hp} {ρ ρ1 : VE} {σ σ1 : St} {H H1 : Hp} {D : Ends} {r : Res} (s : Step M (Nf M ρ σ) (Nf M ρ1 σ1) H H1) (h : resOk K M H0 ρ σ H D r) : resOk K M H0 ρ1 σ1 H1 D r := by
  cases r with
  | fail => exact h
  | next ρ' => exact Beh.from s h
  | brk ρ' => exact Beh.from s h
  | cont ρ' => exact Beh.from s h
  | ret r => exact h
section
variable {X : Cx} {K : PySem.W.Frag} {M : Fb} {H0 : Hp} {st : Stmt} {rest : List Stmt} {g g1 g2 : VE → Res} {pos : Pos} {e : Expr} {f : VE → Option D}
theorem vs_nil : PSs X [] (tS K M H0 fun ρ => .next ρ) := pss_nil.mono fun D σ H ⟨ρ, R, q⟩ => q σ H R Step.refl
theorem j_vs_nil  : JB X [] (tS K M H0 fun ρ => .next ρ) := ⟨vs_nil ⟩
theorem vs_cons (h1 : PS X st (tS K M H0 g1)) (h2 : PSs X rest (tS K M H0 g2)) : PSs X (st :: rest) (tS K M H0 fun ρ => seqR (g1 ρ) g2) := (pss_cons h1 h2).mono fun D σ H ⟨ρ, R, q⟩ => by
  try dsimp only at q
  refine ⟨ρ, R, ?_⟩
  cases hg : g1 ρ with
  | fail => rw [hg] at q; exact q
  | next ρ1 => rw [hg] at q; exact fun σ1 H1 R1 s1 => ⟨ρ1, R1, q.from s1⟩
  | brk ρ1 => rw [hg] at q; exact q
  | cont ρ1 => rw [hg] at q; exact q
  | ret r => rw [hg] at q; exact q
theorem j_vs_cons (h1 : JS X st (tS K M H0 g1)) (h2 : JB X rest (tS K M H0 g2)) : JB X (st :: rest) (tS K M H0 fun ρ => seqR (g1 ρ) g2) := ⟨vs_cons h1.h h2.h⟩
theorem vs_pass : PS X (.Pass pos) (tS K M H0 fun ρ => .next ρ) := ps_pass.mono fun D σ H ⟨ρ, R, q⟩ => q σ H R Step.refl
theorem j_vs_pass  : JS X (.Pass pos) (tS K M H0 fun ρ => .next ρ) := ⟨vs_pass ⟩
theorem vs_break : PS X (.Break pos) (tS K M H0 fun ρ => .brk ρ) := ps_break.mono fun D σ H ⟨ρ, R, q⟩ => q σ H R Step.refl
theorem j_vs_break  : JS X (.Break pos) (tS K M H0 fun ρ => .brk ρ) := ⟨vs_break ⟩
theorem vs_continue : PS X (.Continue pos) (tS K M H0 fun ρ => .cont ρ) := ps_continue.mono fun D σ H ⟨ρ, R, q⟩ => q σ H R Step.refl
theorem j_vs_continue  : JS X (.Continue pos) (tS K M H0 fun ρ => .cont ρ) := ⟨vs_continue ⟩
@[simp] def retO (o : Option D) : Res := match o with
  | some d => .ret (.val d)
  | none => .fail
theorem nf_sub {M : Fb} {ρ : VE} {σ : St} : ∀ a, M a → Nf M ρ σ a := fun _ h => .inl h
theorem vs_ret (h : PE X e (tD K M H0 f)) : PS X (.Return (some e) pos) (tS K M H0 fun ρ => retO (f ρ)) := (ps_ret h).mono fun D σ H ⟨ρ, R, q⟩ => by
  try dsimp only at q
  cases hf : f ρ with
  | none => rw [hf] at q; exact False.elim q
  | some d =>
    rw [hf] at q
    exact ⟨ρ, d, R, hf, fun v H' s hv => q v H' (R.same.trans s) (hv.nw fun a ha => .inl (.inl ha))⟩
theorem j_vs_ret (h : JE X e (tD K M H0 f)) : JS X (.Return (some e) pos) (tS K M H0 fun ρ => retO (f ρ)) := ⟨vs_ret h.h⟩
theorem vs_retN : PS X (.Return none pos) (tS K M H0 fun _ => .ret (.val .non)) := ps_retN.mono fun D σ H ⟨ρ, R, q⟩ => q .non H R.same (by simp only [RvOk, Den])
theorem j_vs_retN  : JS X (.Return none pos) (tS K M H0 fun _ => .ret (.val .non)) := ⟨vs_retN ⟩
/-- a new list is handed back -/
@[simp] def retF (o : Option (List D)) : Res := match o with
  | some xs => .ret (.own xs)
  | none => .fail
theorem vs_retF {f : VE → Option (List D)} (h : PE X e (tF K M H0 f)) : PS X (.Return (some e) pos) (tS K M H0 fun ρ => retF (f ρ)) := (ps_ret h).mono fun D σ H ⟨ρ, R, q⟩ => by
  try dsimp only at q
  cases hf : f ρ with
  | none => rw [hf] at q; exact False.elim q
  | some xs =>
    rw [hf] at q
    exact ⟨ρ, xs, R, hf, fun a vs H' s z1 z2 z3 => q (.ref a) H' (R.same.trans s) ⟨a, vs, rfl, R.same.free z1, z2, z3.nw fun b hb => by
      rcases hb with hb | hb
      · exact .inl (.inl (.inl hb))
      · exact .inl (.inr hb)⟩⟩
theorem j_vs_retF {f : VE → Option (List D)} (h : JE X e (tF K M H0 f)) : JS X (.Return (some e) pos) (tS K M H0 fun ρ => retF (f ρ)) := ⟨vs_retF h.h⟩
/-- the list of a variable that is owned is handed back -/
@[simp] def rdO (ρ : VE) (i : Nat) : Option (List D) := match ρ[i]? with
  | some (.own xs) => some xs
  | _ => none
theorem rdO_slot {ρ : VE} {i : Nat} {xs : List D} (h : rdO ρ i = some xs) : ρ[i]? = some (.own xs) := by
  unfold rdO at h
  split at h
  · cases h; assumption
  · cases h
theorem join_some {σ : St} {i : Nat} {v : V} (e1 : σ[i]?.join = some v) : σ[i]? = some (some v) := by
  cases z : σ[i]? with
  | none => rw [z] at e1; cases e1
  | some o => rw [z] at e1; cases e1; rfl
theorem vs_retO {i : Nat} {x : Str} {vpos : Pos} (hN : X.N[i]? = some x) (hv : Vis X.env.scope x) (hd : (x == ("__debug__" : Str)) = false := by decide) (hcd : (x == ("__classdict__" : Str)) = false := by decide) :
    PS X (.Return (some (.Name x vpos)) pos) (tS K M H0 fun ρ => retF (rdO ρ i)) := (ps_ret (pe_var hN hv hd hcd)).mono fun D σ H ⟨ρ, R, q⟩ => by
  try dsimp only at q
  cases hf : rdO ρ i with
  | none => rw [hf] at q; exact False.elim q
  | some xs =>
    rw [hf] at q
    obtain ⟨a, vs, e1, z1, z2, z3, z4⟩ := R.slot i _ (rdO_slot hf)
    refine ⟨.ref a, join_some e1, q (.ref a) H R.same ⟨a, vs, rfl, z1, z3, z4.nw fun b hb => .inl ?_⟩⟩
    rcases hb with hb | hb
    · exact .inl hb
    · subst hb; exact .inr ⟨i, xs, rdO_slot hf, join_some e1⟩
/-- if -/
@[simp] def iteR (c : Option Bool) (a b : Res) : Res := match c with
  | some true => a
  | some false => b
  | none => .fail
theorem vs_if {c : Expr} {a b : List Stmt} {t : VE → Option Bool} (hc : PT X c (tB' K M H0 t)) (ha : PSs X a (tS K M H0 g1)) (hb : PSs X b (tS K M H0 g2)) : PS X (.If c a b pos) (tS K M H0 fun ρ => iteR (t ρ) (g1 ρ) (g2 ρ)) := (ps_if hc ha hb).mono fun D σ H ⟨ρ, R, q⟩ => by
  try dsimp only at q
  cases ht : t ρ with
  | none => rw [ht] at q; exact False.elim q
  | some k =>
    rw [ht] at q
    refine ⟨ρ, k, R, ht, fun H1 s => ?_⟩
    cases k with
    | true => refine ite_t ?_; exact ⟨ρ, R.st s, resOk.from (Step.of_same s) q⟩
    | false => refine ite_f ?_; exact ⟨ρ, R.st s, resOk.from (Step.of_same s) q⟩

theorem j_vs_if {c : Expr} {a b : List Stmt} {t : VE → Option Bool} (hc : JT X c (tB' K M H0 t)) (ha : JB X a (tS K M H0 g1)) (hb : JB X b (tS K M H0 g2)) : JS X (.If c a b pos) (tS K M H0 fun ρ => iteR (t ρ) (g1 ρ) (g2 ρ)) := ⟨vs_if hc.h ha.h hb.h⟩
/-! a slot is set -/
theorem set_get {α : Type} {l : List α} {i : Nat} {x y : α} (h : (l.set i x)[i]? = some y) : i < l.length ∧ x = y := by
  by_cases hi : i < l.length
  · rw [List.getElem?_set_self hi] at h; exact ⟨hi, Option.some.inj h⟩
  · rw [List.getElem?_eq_none (by simpa using Nat.le_of_not_lt hi)] at h; cases h
theorem nf_set {M : Fb} {ρ : VE} {σ : St} {i : Nat} {s : Sl} {v : V} {b : Addr} (hl : ρ.length = σ.length) (h : Nf M (ρ.set i s) (σ.set i (some v)) b) : Nf M ρ σ b ∨ ∃ xs, s = .own xs ∧ v = .ref b := by
  rcases h with h | ⟨j, xs, h1, h2⟩
  · exact .inl (.inl h)
  · by_cases e : i = j
    · subst e
      have q1 := (set_get h1).2
      have q2 := (set_get h2).2
      cases q1; cases q2; exact .inr ⟨xs, rfl, rfl⟩
    · rw [List.getElem?_set_ne e] at h1 h2
      exact .inl (.inr ⟨j, xs, h1, h2⟩)
theorem Rel.put {ρ : VE} {σ : St} {H H' : Hp} {i : Nat} {s : Sl} {v : V} (R : Rel K M H0 ρ σ H) (S : Step M (Nf M ρ σ) (Nf M (ρ.set i s) (σ.set i (some v))) H H') (sm : Same H0 H')
    (ow : ∀ j a vs xs, j ≠ i → ρ[j]? = some (.own xs) → σ[j]? = some (some (.ref a)) → H a = some (.lst vs) → H' a = some (.lst vs))
    (hs : i < ρ.length → SlOk K M (Nf M (ρ.set i s) (σ.set i (some v))) H0 H' s (some v))
    (hinj : ∀ xs a j ys, s = .own xs → v = .ref a → j ≠ i → ρ[j]? = some (.own ys) → σ[j]? ≠ some (some (.ref a))) : Rel K M H0 (ρ.set i s) (σ.set i (some v)) H' where
  len := by rw [List.length_set, List.length_set]; exact R.len
  same := sm
  mh := fun a h z => by
    cases e : H a with
    | none => exact R.mh a h e
    | some o => rw [S.kp a o e (.inr (.inl h))] at z; cases z
  slot := fun j sl e => by
    by_cases eij : i = j
    · subst eij
      obtain ⟨hi, e⟩ := set_get e
      subst e
      rw [List.getElem?_set_self (by rw [← R.len]; exact hi)]
      exact hs hi
    · rw [List.getElem?_set_ne eij] at e ⊢
      have q := R.slot j sl e
      cases sl with
      | no => trivial
      | val d => obtain ⟨u, e1, h⟩ := q; exact ⟨u, e1, Den.step S d u h⟩
      | own xs => obtain ⟨a, vs, e1, h1, h2, h3, h4⟩ := q; exact ⟨a, vs, e1, h1, h2, ow j a vs xs (Ne.symm eij) e (join_some e1) h3, DenL.step S xs vs h4⟩
      | lent xs => obtain ⟨a, vs, e1, h1, h2, h3⟩ := q; exact ⟨a, vs, e1, h1, h2.step S (.inr (.inl h1)), DenL.step S xs vs h3⟩
  inj := fun j k xs ys a h1 h2 h3 h4 => by
    by_cases ej : i = j
    · by_cases ek : i = k
      · rw [← ej, ek]
      · subst ej
        rw [List.getElem?_set_ne ek] at h2 h4
        have q1 := (set_get h1).2
        have q3 := (set_get h3).2
        cases q1; cases q3; exact absurd h4 (hinj xs a k ys rfl rfl (Ne.symm ek) h2)
    · rw [List.getElem?_set_ne ej] at h1 h3
      by_cases ek : i = k
      · subst ek
        have q2 := (set_get h2).2
        have q4 := (set_get h4).2
        cases q2; cases q4; exact absurd h3 (hinj ys a j xs rfl rfl (Ne.symm ej) h1)
      · rw [List.getElem?_set_ne ek] at h2 h4
        exact R.inj j k xs ys a h1 h2 h3 h4
/-- data into a slot -/
theorem Rel.setV {ρ : VE} {σ : St} {H H' : Hp} {i : Nat} {d : D} {v : V} (R : Rel K M H0 ρ σ H) (s : Same H H') (h : Den K (Nf M ρ σ) H' d v) :
    Rel K M H0 (ρ.set i (.val d)) (σ.set i (some v)) H' ∧ Step M (Nf M ρ σ) (Nf M (ρ.set i (.val d)) (σ.set i (some v))) H H' := by
  have S : Step M (Nf M ρ σ) (Nf M (ρ.set i (.val d)) (σ.set i (some v))) H H' := ⟨fun a o e _ => s a o e, fun b hb => by
    rcases nf_set R.len hb with q | ⟨xs, e, _⟩
    · exact .inl q
    · cases e⟩
  refine ⟨R.put S (R.same.trans s) (fun j a vs xs _ _ _ e => s _ _ e) (fun _ => ⟨v, rfl, h.nw fun b hb => ?_⟩) (fun xs a j ys e => nomatch e), S⟩
  rcases nf_set R.len hb with q | ⟨xs, e, _⟩
  · exact .inl q
  · cases e
/-- a new list into a slot -/
theorem Rel.setO {ρ : VE} {σ : St} {H H' : Hp} {i : Nat} {xs : List D} {a : Addr} {vs : List V} (R : Rel K M H0 ρ σ H) (s : Same H H') (hn : H a = none) (ha : H' a = some (.lst vs)) (h : DenL K (fun b => Nf M ρ σ b ∨ b = a) H' xs vs) :
    Rel K M H0 (ρ.set i (.own xs)) (σ.set i (some (.ref a))) H' ∧ Step M (Nf M ρ σ) (Nf M (ρ.set i (.own xs)) (σ.set i (some (.ref a)))) H H' := by
  have nf : ∀ b, Nf M (ρ.set i (.own xs)) (σ.set i (some (.ref a))) b → Nf M ρ σ b ∨ b = a := fun b hb => by
    rcases nf_set R.len hb with q | ⟨xs, e, e'⟩
    · exact .inl q
    · cases e'; exact .inr rfl
  have S : Step M (Nf M ρ σ) (Nf M (ρ.set i (.own xs)) (σ.set i (some (.ref a)))) H H' := ⟨fun a o e _ => s a o e, fun b hb => by
    rcases nf b hb with q | q
    · exact .inl q
    · subst q; exact .inr hn⟩
  refine ⟨R.put S (R.same.trans s) (fun j a vs xs _ _ _ e => s _ _ e) (fun _ => ⟨a, vs, rfl, R.same.free hn, fun hm => R.fresh hn (.inl hm), ha, h.nw fun b hb => .inl (nf b hb)⟩) (fun xs' a' j ys e e' hj h1 h2 => ?_), S⟩
  cases e'
  exact R.fresh hn (.inr ⟨j, ys, h1, h2⟩)
/-- the list of a slot is changed -/
theorem Rel.chg {ρ : VE} {σ : St} {H : Hp} {i : Nat} {xs ys : List D} {a : Addr} {ws : List V} (R : Rel K M H0 ρ σ H) (hi : ρ[i]? = some (.own xs)) (ha : σ[i]? = some (some (.ref a))) (h : DenL K (Nf M ρ σ) H ys ws) :
    Rel K M H0 (ρ.set i (.own ys)) σ (upd H a (.lst ws)) ∧ Step M (Nf M ρ σ) (Nf M (ρ.set i (.own ys)) σ) H (upd H a (.lst ws)) := by
  obtain ⟨a', vs, e1, z1, z2, z3, z4⟩ := R.slot i _ hi
  rw [ha] at e1
  have ea : a = a' := by simpa using e1
  subst ea
  have hσ : σ.set i (some (.ref a)) = σ := by
    apply List.ext_getElem?
    intro j
    by_cases e : i = j
    · subst e
      rw [List.getElem?_set_self (List.getElem?_eq_some_iff.mp ha).1, ha]
    · rw [List.getElem?_set_ne e]
  have na : Nf M ρ σ a := .inr ⟨i, xs, hi, ha⟩
  have nf : ∀ b, Nf M (ρ.set i (.own ys)) (σ.set i (some (.ref a))) b → Nf M ρ σ b := fun b hb => by
    rcases nf_set R.len hb with q | ⟨xs, e, e'⟩
    · exact q
    · cases e'; exact na
  have S : Step M (Nf M ρ σ) (Nf M (ρ.set i (.own ys)) (σ.set i (some (.ref a)))) H (upd H a (.lst ws)) := ⟨fun b o e z => by
      have ne : b ≠ a := by
        rintro rfl
        rcases z with z | z | z
        · exact z na
        · exact z2 z
        · rw [z3] at e; cases e; exact z _ rfl
      rw [upd_ne ne]; exact e, fun b hb => .inl (nf b hb)⟩
  have key : Rel K M H0 (ρ.set i (.own ys)) (σ.set i (some (.ref a))) (upd H a (.lst ws)) := by
    refine R.put S (fun b o e => ?_) (fun j b us xs' hj h1 h2 h3 => ?_) (fun _ => ⟨a, ws, rfl, z1, z2, upd_same, DenL.step S ys ws h⟩) (fun xs' b j ys' e e' hj h1 h2 => ?_)
    · have ne : b ≠ a := by
        rintro rfl
        rw [z1] at e; cases e
      rw [upd_ne ne]; exact R.same b o e
    · have ne : b ≠ a := by
        rintro rfl
        exact hj (R.inj j i xs' xs b h1 hi h2 ha)
      rw [upd_ne ne]; exact h3
    · cases e'
      exact hj (R.inj j i ys' xs _ h1 hi h2 ha)
  rw [hσ] at key S
  exact ⟨key, S⟩
/-- a list that was owned is data from now on -/
theorem Rel.frz {ρ : VE} {σ : St} {H : Hp} {i : Nat} {xs : List D} (R : Rel K M H0 ρ σ H) (hi : ρ[i]? = some (.own xs)) :
    Rel K M H0 (ρ.set i (.val (.lst xs))) σ H ∧ Step M (Nf M ρ σ) (Nf M (ρ.set i (.val (.lst xs))) σ) H H := by
  obtain ⟨a, vs, e1, z1, z2, z3, z4⟩ := R.slot i _ hi
  have ha := join_some e1
  have hσ : σ.set i (some (.ref a)) = σ := by
    apply List.ext_getElem?
    intro j
    by_cases e : i = j
    · subst e
      rw [List.getElem?_set_self (List.getElem?_eq_some_iff.mp ha).1, ha]
    · rw [List.getElem?_set_ne e]
  have nf : ∀ b, Nf M (ρ.set i (.val (.lst xs))) (σ.set i (some (.ref a))) b → Nf M ρ σ b := fun b hb => by
    rcases nf_set R.len hb with q | ⟨xs, e, e'⟩
    · exact q
    · cases e
  have nna : ¬ Nf M (ρ.set i (.val (.lst xs))) (σ.set i (some (.ref a))) a := by
    rintro (h | ⟨j, ys, h1, h2⟩)
    · exact z2 h
    · by_cases e : i = j
      · subst e
        have q1 := (set_get h1).2
        cases q1
      · rw [List.getElem?_set_ne e] at h1 h2
        exact e (R.inj i j xs ys a hi h1 ha h2)
  have S : Step M (Nf M ρ σ) (Nf M (ρ.set i (.val (.lst xs))) (σ.set i (some (.ref a)))) H H := ⟨fun _ _ e _ => e, fun b hb => .inl (nf b hb)⟩
  have key : Rel K M H0 (ρ.set i (.val (.lst xs))) (σ.set i (some (.ref a))) H := by
    refine R.put S R.same (fun _ _ _ _ _ _ _ h => h) (fun _ => ⟨.ref a, rfl, ?_⟩) (fun xs' b j ys' e => nomatch e)
    simp only [Den]
    exact ⟨a, vs, rfl, .of nna z3, DenL.step S xs vs z4⟩
  rw [hσ] at key S
  exact ⟨key, S⟩

/-! name = value -/
@[simp] def setR (i : Nat) (o : Option D) (ρ : VE) : Res := match o with
  | some d => .next (ρ.set i (.val d))
  | none => .fail
@[simp] def setRF (i : Nat) (o : Option (List D)) (ρ : VE) : Res := match o with
  | some xs => .next (ρ.set i (.own xs))
  | none => .fail
theorem tAsg_D {i : Nat} {D' : Ends} {σ : St} {H : Hp} (h : tS K M H0 (fun ρ => setR i (f ρ) ρ) D' σ H) : tAsg (tD K M H0 f) (gName i) D' σ H := by
  obtain ⟨ρ, R, q⟩ := h
  try dsimp only at q
  cases hf : f ρ with
  | none => simp only [hf, setR] at q; exact False.elim q
  | some d =>
    simp only [hf, setR] at q
    refine ⟨ρ, d, R, hf, fun v H1 s hv => ?_⟩
    obtain ⟨R1, S1⟩ := R.setV (i := i) s hv
    exact q _ _ R1 S1
theorem tAsg_F {f : VE → Option (List D)} {i : Nat} {D' : Ends} {σ : St} {H : Hp} (h : tS K M H0 (fun ρ => setRF i (f ρ) ρ) D' σ H) : tAsg (tF K M H0 f) (gName i) D' σ H := by
  obtain ⟨ρ, R, q⟩ := h
  try dsimp only at q
  cases hf : f ρ with
  | none => simp only [hf, setRF] at q; exact False.elim q
  | some d =>
    simp only [hf, setRF] at q
    refine ⟨ρ, d, R, hf, fun a vs H1 s z1 z2 z3 => ?_⟩
    obtain ⟨R1, S1⟩ := R.setO (i := i) s z1 z2 z3
    exact q _ _ R1 S1
theorem vs_set {i : Nat} {x : Str} {pos' : Pos} (hN : X.N.Nodup) (hi : X.N[i]? = some x) (hx : Loc X.env.scope x) (he : PE X e (tD K M H0 f)) (hs : swapsWith e (some (.Name x pos')) pos.line X.env = pure false := by rfl) (hf : X.fn x = true ∨ X.env.scope.names.lookup x = some .local := by first | exact .inl rfl | exact .inr rfl | assumption) :
    PS X (.Assign [.Name x pos'] e pos) (tS K M H0 fun ρ => setR i (f ρ) ρ) := (ps_set hN hi hx he hs hf).mono fun _ _ _ q => tAsg_D q
theorem j_vs_set {i : Nat} {x : Str} {pos' : Pos} (hN : X.N.Nodup) (hi : X.N[i]? = some x) (hx : Loc X.env.scope x) (he : JE X e (tD K M H0 f)) (hs : swapsWith e (some (.Name x pos')) pos.line X.env = pure false := by rfl) (hf : X.fn x = true ∨ X.env.scope.names.lookup x = some .local := by first | exact .inl rfl | exact .inr rfl | assumption) : JS X (.Assign [.Name x pos'] e pos) (tS K M H0 fun ρ => setR i (f ρ) ρ) := ⟨vs_set hN hi hx he.h hs hf⟩
theorem vs_setF {f : VE → Option (List D)} {i : Nat} {x : Str} {pos' : Pos} (hN : X.N.Nodup) (hi : X.N[i]? = some x) (hx : Loc X.env.scope x) (he : PE X e (tF K M H0 f)) (hs : swapsWith e (some (.Name x pos')) pos.line X.env = pure false := by rfl) (hf : X.fn x = true ∨ X.env.scope.names.lookup x = some .local := by first | exact .inl rfl | exact .inr rfl | assumption) :
    PS X (.Assign [.Name x pos'] e pos) (tS K M H0 fun ρ => setRF i (f ρ) ρ) := (ps_set hN hi hx he hs hf).mono fun _ _ _ q => tAsg_F q
theorem j_vs_setF {f : VE → Option (List D)} {i : Nat} {x : Str} {pos' : Pos} (hN : X.N.Nodup) (hi : X.N[i]? = some x) (hx : Loc X.env.scope x) (he : JE X e (tF K M H0 f)) (hs : swapsWith e (some (.Name x pos')) pos.line X.env = pure false := by rfl) (hf : X.fn x = true ∨ X.env.scope.names.lookup x = some .local := by first | exact .inl rfl | exact .inr rfl | assumption) : JS X (.Assign [.Name x pos'] e pos) (tS K M H0 fun ρ => setRF i (f ρ) ρ) := ⟨vs_setF hN hi hx he.h hs hf⟩
/-- ahead of a statement the list of slot i is set free -/
@[simp] def frzR (i : Nat) (ρ : VE) : VE := match ρ[i]? with
  | some (.own xs) => ρ.set i (.val (.lst xs))
  | _ => ρ
theorem vs_frz (i : Nat) (h : PS X st (tS K M H0 g)) : PS X st (tS K M H0 fun ρ => g (frzR i ρ)) := h.mono fun D' σ H ⟨ρ, R, q⟩ => by
  try dsimp only at q
  unfold frzR at q
  split at q
  · next xs hi =>
    obtain ⟨R1, S1⟩ := R.frz hi
    exact ⟨_, R1, q.from S1⟩
  · exact ⟨ρ, R, q⟩
theorem j_vs_frz (i : Nat) (h : JS X st (tS K M H0 g)) : JS X st (tS K M H0 fun ρ => g (frzR i ρ)) := ⟨vs_frz i h.h⟩
/-- x.append(e) -/
@[simp] def appR (i : Nat) (o : Option D) (ρ : VE) : Res := match rdO ρ i, o with
  | some xs, some d => if xs.length < sizeLine then .next (ρ.set i (.own (xs ++ [d]))) else .fail
  | _, _ => .fail
theorem vs_append {i : Nat} {x : Str} {vpos apos cpos : Pos} (hN : X.N[i]? = some x) (hv : Vis X.env.scope x) (he : PE X e (tD K M H0 f)) (hd : (x == ("__debug__" : Str)) = false := by decide) (hcd : (x == ("__classdict__" : Str)) = false := by decide)
    (hs : swapsWith (.Call (.Attribute (.Name x vpos) "append" apos) [e] [] cpos) none pos.line X.env = pure false := by rfl)
    (hbase : attributeBase (.Name x vpos) "append" X.env (eval (.Name x vpos) X.env) = eval (.Name x vpos) X.env := by rfl)
    (hfew : ((backTo cpos (starEach [e] X.env)).all (fun x => !x.1) && (backToKw cpos (keywordEach [] X.env)).all (fun x => x.1.isSome)
      && decide ([e].length + ([] : List Keyword).length + (if ([] : List Keyword).isEmpty then 0 else 1) < 30)) = true := by rfl)
    (hline : (apos.endLine == cpos.line) = true := by rfl) (hst : starEach [e] X.env = (false, eval e X.env) :: starEach [] X.env := by rfl) (hpl : (backTo cpos (starEach [] X.env)).any (·.1) = false := by rfl) :
    PS X (.Expr (.Call (.Attribute (.Name x vpos) "append" apos) [e] [] cpos) pos) (tS K M H0 fun ρ => appR i (f ρ) ρ) :=
  (ps_expr (pe_bm PySem.F.plainAttrs_list PySem.F.slot_list_append PySem.F.type_list_append mt_append (pe_var hN hv hd hcd) (pa_cons he pa_nil hst) hbase hfew hline hst hpl) hs).mono fun D' σ H ⟨ρ, R, q⟩ => by
    try dsimp only at q
    cases hr : rdO ρ i with
    | none => simp only [hr, appR] at q; exact False.elim q
    | some xs =>
      cases hf : f ρ with
      | none => simp only [hr, hf, appR] at q; exact False.elim q
      | some d =>
        simp only [hr, hf, appR] at q
        split at q
        · next hz =>
          have hi := rdO_slot hr
          obtain ⟨a, vs, e1, z1, z2, z3, z4⟩ := R.slot i _ hi
          have ha := join_some e1
          refine ⟨.ref a, ha, .inl ⟨rfl, vs, .inl (.inl z3)⟩, ρ, d, R, hf, fun v H1 s hv => ?_⟩
          have R1 := R.st s
          obtain ⟨R2, S2⟩ := R1.chg (ys := xs ++ [d]) (ws := vs ++ [v]) hi ha ((z4.same s).append (DenL.cons hv DenL.nil))
          exact ⟨a, vs, v, rfl, rfl, s _ _ z3, by rw [← z4.length]; exact hz, q _ _ R2 ((Step.of_same s).trans S2)⟩
        · exact False.elim q
theorem j_vs_append {i : Nat} {x : Str} {vpos apos cpos : Pos} (hN : X.N[i]? = some x) (hv : Vis X.env.scope x) (he : JE X e (tD K M H0 f)) (hd : (x == ("__debug__" : Str)) = false := by decide) (hcd : (x == ("__classdict__" : Str)) = false := by decide) (hs : swapsWith (.Call (.Attribute (.Name x vpos) "append" apos) [e] [] cpos) none pos.line X.env = pure false := by rfl) (hbase : attributeBase (.Name x vpos) "append" X.env (eval (.Name x vpos) X.env) = eval (.Name x vpos) X.env := by rfl) (hfew : ((backTo cpos (starEach [e] X.env)).all (fun x => !x.1) && (backToKw cpos (keywordEach [] X.env)).all (fun x => x.1.isSome)
      && decide ([e].length + ([] : List Keyword).length + (if ([] : List Keyword).isEmpty then 0 else 1) < 30)) = true := by rfl) (hline : (apos.endLine == cpos.line) = true := by rfl) (hst : starEach [e] X.env = (false, eval e X.env) :: starEach [] X.env := by rfl) (hpl : (backTo cpos (starEach [] X.env)).any (·.1) = false := by rfl) : JS X (.Expr (.Call (.Attribute (.Name x vpos) "append" apos) [e] [] cpos) pos) (tS K M H0 fun ρ => appR i (f ρ) ρ) := ⟨vs_append hN hv he.h hd hcd hs hbase hfew hline hst hpl⟩
end

/-! ### for -/
/-- J walks ds, whatever is done with lists that are owned -/
def ItOk (K : PySem.W.Frag) (M N : Fb) (H1 : Hp) (J : It) (ds : List D) : Prop := ∀ N2 H2, Step M N N2 H1 H2 → ∀ i, (∀ d, ds[i]? = some d → J.go i H2 ∧ ∀ x H3, J.yld i H2 x H3 → Same H2 H3 ∧ Den K N2 H3 d x) ∧ (i = ds.length → J.stop i H2)
def tI (K : PySem.W.Frag) (M : Fb) (H0 : Hp) (f : VE → Option (List D)) : TI := fun σ H R => ∃ ρ ds, Rel K M H0 ρ σ H ∧ f ρ = some ds ∧ ∀ J H1, Same H H1 → ItOk K M (Nf M ρ σ) H1 J ds → R J H1
/-- what is done with an item -/
def tG (K : PySem.W.Frag) (M : Fb) (H0 : Hp) (ws : List Nat) (b : D → VE → Option VE) : TG := fun v σ H Q => ∃ ρ d ρ', Rel K M H0 ρ σ H ∧ Den K (Nf M ρ σ) H d v ∧ b d ρ = some ρ' ∧ ∀ σ' , Rel K M H0 ρ' σ' H → Step M (Nf M ρ σ) (Nf M ρ' σ') H H → (∀ j, j ∉ ws → σ'[j]? = σ[j]?) → Q σ' H
@[simp] def bName (i : Nat) (d : D) (ρ : VE) : Option VE := some (ρ.set i (.val d))
def forR (b : D → VE → Option VE) (g : VE → Res) : List D → VE → Res
  | [], ρ => .next ρ
  | d :: ds, ρ => match b d ρ with
    | none => .fail
    | some ρ1 => match g ρ1 with
      | .next ρ2 => forR b g ds ρ2
      | .cont ρ2 => forR b g ds ρ2
      | .brk ρ2 => .next ρ2
      | r => r
@[simp] def forO (f : VE → Option (List D)) (b : D → VE → Option VE) (g : VE → Res) : VE → Res := fun ρ => match f ρ with
  | some ds => forR b g ds ρ
  | none => .fail
section
variable {X : Cx} {K : PySem.W.Frag} {M : Fb} {H0 : Hp} {pos : Pos} {e tg iter : Expr} {f : VE → Option (List D)} {b : D → VE → Option VE} {g : VE → Res} {body : List Stmt}
theorem vg_name {i : Nat} {x : Str} (hN : X.N.Nodup) (hi : X.N[i]? = some x) (hx : Loc X.env.scope x) (hf : X.fn x = true ∨ X.env.scope.names.lookup x = some .local := by first | exact .inl rfl | exact .inr rfl | assumption) : PG X (.Name x pos) (tG K M H0 [i] (bName i)) := by
  intro pins s σ H v u Q I r ⟨ρ, d, ρ', R, hd, e, q⟩
  cases e
  obtain ⟨R1, S1⟩ := R.setV (i := i) (Same.refl H) hd
  exact pg_name hN hi hx hf pins s σ H v u Q I r (q _ R1 S1 fun j hj => by rw [List.getElem?_set_ne (fun e => hj (by rw [e]; simp))])
theorem j_vg_name {i : Nat} {x : Str} (hN : X.N.Nodup) (hi : X.N[i]? = some x) (hx : Loc X.env.scope x) (hf : X.fn x = true ∨ X.env.scope.names.lookup x = some .local := by first | exact .inl rfl | exact .inr rfl | assumption) : JG X (.Name x pos) (tG K M H0 [i] (bName i)) := ⟨vg_name hN hi hx hf⟩
theorem tFor_D {ws : List Nat} {D' : Ends} {σ : St} {H : Hp} {wi : TI} {tg' : TG} {tb : TS} (hi : ∀ σ H R, tI K M H0 f σ H R → wi σ H R) (hg : ∀ v σ H Q, tG K M H0 ws b v σ H Q → tg' v σ H Q) (hb : ∀ D σ H, tS K M H0 g D σ H → tb D σ H)
    (h : tS K M H0 (forO f b g) D' σ H) : tFor wi tg' tb D' σ H := by
  obtain ⟨ρ, R, q⟩ := h
  try dsimp only at q
  unfold forO at q
  cases hf : f ρ with
  | none => rw [hf] at q; exact False.elim q
  | some ds =>
    rw [hf] at q
    refine hi _ _ _ ⟨ρ, ds, R, hf, fun J H1 s1 ok => ?_⟩
    -- at turn i: the slots ρi from which the rest of the items gives what is wanted
    refine ⟨fun i m σi Hi => m = ds.length - i ∧ i ≤ ds.length ∧ ∃ ρi, Rel K M H0 ρi σi Hi ∧ Step M (Nf M ρ σ) (Nf M ρi σi) H1 Hi ∧ resOk K M H0 ρi σi Hi D' (forR b g (ds.drop i) ρi), ⟨ds.length, by simp, Nat.zero_le _, ρ, R.st s1, Step.refl, ?_⟩, ?_⟩
    · exact resOk.from (Step.of_same s1) q
    · rintro i m σi Hi ⟨rfl, hle, ρi, Ri, Si, qi⟩
      obtain ⟨ok1, ok2⟩ := ok _ _ Si i
      by_cases hlt : i < ds.length
      · obtain ⟨go, y⟩ := ok1 ds[i] (List.getElem?_eq_getElem hlt)
        rw [List.drop_eq_getElem_cons hlt] at qi
        simp only [forR] at qi
        refine .inr ⟨go, fun σ' H' => i + 1 ≤ ds.length ∧ ∃ ρi, Rel K M H0 ρi σ' H' ∧ Step M (Nf M ρ σ) (Nf M ρi σ') H1 H' ∧ resOk K M H0 ρi σ' H' D' (forR b g (ds.drop (i + 1)) ρi), fun σ' H' z => ⟨ds.length - (i + 1), by omega, rfl, z⟩, fun x H' yl => ?_⟩
        obtain ⟨s3, hd⟩ := y x H' yl
        cases hbd : b ds[i] ρi with
        | none => rw [hbd] at qi; exact False.elim qi
        | some ρ1 =>
          rw [hbd] at qi
          simp only at qi
          refine hg _ _ _ _ ⟨ρi, ds[i], ρ1, Ri.st s3, hd, hbd, fun σ1 R1 S1 _ => hb _ _ _ ⟨ρ1, R1, ?_⟩⟩
          have S01 : Step M (Nf M ρi σi) (Nf M ρ1 σ1) Hi H' := (Step.of_same s3).trans S1
          cases hgr : g ρ1 with
          | fail => rw [hgr] at qi; exact qi
          | next ρ2 => rw [hgr] at qi; exact fun σ2 H2 R2 S2 => ⟨hlt, ρ2, R2, Si.trans (S01.trans S2), resOk.from (S01.trans S2) qi⟩
          | cont ρ2 => rw [hgr] at qi; exact fun σ2 H2 R2 S2 => ⟨hlt, ρ2, R2, Si.trans (S01.trans S2), resOk.from (S01.trans S2) qi⟩
          | brk ρ2 => rw [hgr] at qi; exact fun σ2 H2 R2 S2 => qi σ2 H2 R2 (S01.trans S2)
          | ret r => rw [hgr] at qi; exact qi
      · have e : i = ds.length := by omega
        rw [List.drop_eq_nil_of_le (by omega)] at qi
        exact .inl ⟨ok2 e, qi σi Hi Ri Step.refl⟩
theorem vs_for {ws : List Nat} (hp : PassesOwn (model X.prog X.w) X.A X.env X.xe) (hc : X.calm = true) (hi : PI X tg iter (tI K M H0 f)) (hg : PG X tg (tG K M H0 ws b)) (hb : PSs X body (tS K M H0 g))
    (hs : ∀ x, foldedSetIterable iter X.env x = pure x := by intro _; rfl) : PS X (.For tg iter body [] pos) (tS K M H0 (forO f b g)) :=
  (ps_for hp hc hi hg hb hs).mono fun _ _ _ q => tFor_D (fun _ _ _ z => z) (fun _ _ _ _ z => z) (fun _ _ _ z => z) q

theorem j_vs_for {ws : List Nat} (hp : PassesOwn (model X.prog X.w) X.A X.env X.xe) (hc : X.calm = true) (hi : JI X tg iter (tI K M H0 f)) (hg : JG X tg (tG K M H0 ws b)) (hb : JB X body (tS K M H0 g)) (hs : ∀ x, foldedSetIterable iter X.env x = pure x := by intro _; rfl) : JS X (.For tg iter body [] pos) (tS K M H0 (forO f b g)) := ⟨vs_for hp hc hi.h hg.h hb.h hs⟩
/-! what is walked -/
theorem PI.mono {wi wi' : TI} (h : PI X tg iter wi) (m : ∀ σ H R, wi' σ H R → wi σ H R) : PI X tg iter wi' := fun pins s σ H R I q => h pins s σ H R I (m σ H R q)
/-- read, but nothing that is owned here -/
def DenQ (K : PySem.W.Frag) (M N : Fb) (H : Hp) (d : D) (v : V) : Prop := match d with
  | .lst xs => ∃ a vs, v = .ref a ∧ (((¬ N a ∨ M a) ∧ Rd H a (.lst vs)) ∨ KL K a vs) ∧ DenL K N H xs vs
  | d => Den K N H d v
def tQ (K : PySem.W.Frag) (M : Fb) (H0 : Hp) (f : VE → Option D) : TE := fun σ H Q => ∃ ρ d, Rel K M H0 ρ σ H ∧ f ρ = some d ∧ ∀ v H', Same H H' → DenQ K M (Nf M ρ σ) H' d v → Q v H'
theorem Den.q {M N : Fb} {H : Hp} {d : D} {v : V} (h : Den K N H d v) : DenQ K M N H d v := by
  cases d with
  | lst xs =>
    simp only [Den] at h
    obtain ⟨a, vs, e, q, r⟩ := h
    refine ⟨a, vs, e, ?_, r⟩
    rcases q with ⟨n, q⟩ | q
    · exact .inl ⟨.inl n, q⟩
    · exact .inr q
  | _ => exact h
theorem PE.q {f : VE → Option D} (h : PE X e (tD K M H0 f)) : PE X e (tQ K M H0 f) := h.mono fun σ H Q ⟨ρ, d, R, e, q⟩ => ⟨ρ, d, R, e, fun v H' s z => q v H' s z.q⟩
theorem j_q {f : VE → Option D} (h : JE X e (tD K M H0 f)) : JE X e (tQ K M H0 f) := ⟨PE.q h.h⟩
@[simp] def rdQ (ρ : VE) (i : Nat) : Option D := match ρ[i]? with
  | some (.val d) => some d
  | some (.lent xs) => some (.lst xs)
  | _ => none
theorem vq_var {i : Nat} {x : Str} (hN : X.N[i]? = some x) (hv : Vis X.env.scope x) (hd : (x == ("__debug__" : Str)) = false := by decide) (hcd : (x == ("__classdict__" : Str)) = false := by decide) : PE X (.Name x pos) (tQ K M H0 fun ρ => rdQ ρ i) :=
  (pe_var hN hv hd hcd).mono fun σ H Q ⟨ρ, d, R, e, q⟩ => by
    try dsimp only at e q
    unfold rdQ at e
    split at e
    · next h => cases e; obtain ⟨v, e1, h⟩ := R.slot i _ h; exact ⟨v, join_some e1, q v H (Same.refl H) h.q⟩
    · next h => cases e; obtain ⟨a, vs, e1, h2, h3, h4⟩ := R.slot i _ h; exact ⟨_, join_some e1, q _ H (Same.refl H) ⟨a, vs, rfl, .inl ⟨.inr h2, h3⟩, h4⟩⟩
    · cases e
/-- the items of a list, a tuple -/
def lstItems : D → Option (List D)
  | .lst xs => some xs
  | _ => none
def tupItems : D → Option (List D)
  | .tup xs => some xs
  | _ => none
def strItems : D → Option (List D)
  | .str x => some (x.cps.toList.map fun c => D.str ⟨#[c]⟩)
  | _ => none
theorem vi_list {l : Expr} {f : VE → Option D} (h : PE X l (tQ X.K M H0 f)) : PI X tg l (tI X.K M H0 fun ρ => (f ρ).bind lstItems) := (pi_list h).mono fun σ H R' ⟨ρ, ds, R, e, q⟩ => by
  try dsimp only at e q
  cases hf : f ρ with
  | none => rw [hf] at e; cases e
  | some d =>
    rw [hf] at e
    cases d with
    | lst xs =>
      cases e
      refine ⟨ρ, .lst _, R, hf, fun v H1 s1 hv => ?_⟩
      obtain ⟨a, vs, e1, hr, hd⟩ := hv
      have sq : ∀ N2 H2, Step M (Nf M ρ σ) N2 H1 H2 → SqL X.K H2 a vs := fun N2 H2 S => by
        rcases hr with ⟨hn, hr⟩ | hr
        · exact .inl (hr.step S (by rcases hn with z | z; exact .inl z; exact .inr (.inl z)))
        · exact hr.sq
      refine ⟨a, e1, ⟨vs, sq _ _ Step.refl⟩, q _ H1 s1 fun N2 H2 S i => ?_⟩
      have hr2 := sq _ _ S
      have hd2 := DenL.step S _ _ hd
      refine ⟨fun d he => ?_, fun he => ⟨vs, hr2, by rw [he, hd.length]; exact Nat.le_refl _⟩⟩
      obtain ⟨w, hw, hdw⟩ := hd2.get he
      refine ⟨⟨vs, w, hr2, hw⟩, fun x H3 y => ?_⟩
      obtain ⟨e3, y⟩ := y
      subst e3
      have := y vs hr2
      rw [hw] at this; cases this
      exact ⟨Same.refl _, hdw⟩
    | _ => cases e
theorem vi_tup {l : Expr} {f : VE → Option D} (h : PE X l (tQ X.K M H0 f)) : PI X tg l (tI X.K M H0 fun ρ => (f ρ).bind tupItems) := (pi_tup h).mono fun σ H R' ⟨ρ, ds, R, e, q⟩ => by
  try dsimp only at e q
  cases hf : f ρ with
  | none => rw [hf] at e; cases e
  | some d =>
    rw [hf] at e
    cases d with
    | tup xs =>
      cases e
      refine ⟨ρ, .tup _, R, hf, fun v H1 s1 hv => ?_⟩
      simp only [DenQ, Den] at hv
      obtain ⟨a, vs, e1, hr, hd⟩ := hv
      refine ⟨a, e1, ⟨vs, hr⟩, q _ H1 s1 fun N2 H2 S i => ?_⟩
      have hr2 := hr.step S
      have hd2 := DenL.step S _ _ hd
      refine ⟨fun d he => ?_, fun he => ⟨vs, hr2, by rw [he, hd.length]; exact Nat.le_refl _⟩⟩
      obtain ⟨w, hw, hdw⟩ := hd2.get he
      refine ⟨⟨vs, w, hr2, hw⟩, fun x H3 y => ?_⟩
      obtain ⟨e3, y⟩ := y
      subst e3
      have := y vs hr2
      rw [hw] at this; cases this
      exact ⟨Same.refl _, hdw⟩
    | _ => cases e
theorem vi_str {l : Expr} {f : VE → Option D} (h : PE X l (tQ K M H0 f)) : PI X tg l (tI K M H0 fun ρ => (f ρ).bind strItems) := (pi_str h).mono fun σ H R' ⟨ρ, ds, R, e, q⟩ => by
  try dsimp only at e q
  cases hf : f ρ with
  | none => rw [hf] at e; cases e
  | some d =>
    rw [hf] at e
    cases d with
    | str x =>
      cases e
      refine ⟨ρ, .str x, R, hf, fun v H1 s1 hv => ?_⟩
      simp only [DenQ, Den] at hv
      refine ⟨x, hv, q _ H1 s1 fun N2 H2 S i => ⟨fun d he => ?_, fun he => ?_⟩⟩
      · rw [List.getElem?_map] at he
        cases hc : x.cps.toList[i]? with
        | none => rw [hc] at he; cases he
        | some c =>
          rw [hc] at he; cases he
          have hi : i < x.cps.size := by
            have := (List.getElem?_eq_some_iff.mp hc).1
            simpa using this
          refine ⟨hi, fun v H3 y => ?_⟩
          obtain ⟨e3, c', hc', y⟩ := y
          subst e3 y
          rw [← Array.getElem?_toList, hc] at hc'; cases hc'
          exact ⟨Same.refl _, by simp only [Den]⟩
      · have : i = x.cps.size := by simpa using he
        exact Nat.le_of_eq this.symm
    | _ => cases e
/-- range(n), range(m, n) -/
def rngItems (lo : Int) (n : Nat) : List D := (List.range n).map (fun (k : Nat) => D.int (lo + (k : Int)))
theorem rng_ok {M N : Fb} {H1 : Hp} {lo : Int} {n : Nat} : ItOk K M N H1 (Itr lo n) (rngItems lo n) := fun N2 H2 S i => by
  refine ⟨fun d he => ?_, fun he => ?_⟩
  · have hi : i < n := by
      have := (List.getElem?_eq_some_iff.mp he).1
      simpa [rngItems] using this
    have e : d = D.int (lo + i) := by
      simp only [rngItems, List.getElem?_map, List.getElem?_range hi, Option.map_some, Option.some.injEq] at he
      exact he.symm
    subst e
    refine ⟨hi, fun x H3 y => ?_⟩
    obtain ⟨e3, y⟩ := y
    subst e3 y
    exact ⟨Same.refl _, by simp only [Den]⟩
  · have : i = n := by simpa [rngItems] using he
    exact Nat.le_of_eq this.symm
/-- a check whose answer the kernel never reckons -/
noncomputable def gd {α : Type} (p : Prop) (o : Option α) : Option α := @ite _ p (Classical.propDecidable p) o none
theorem gd_pos {α : Type} {p : Prop} {o : Option α} (h : p) : gd p o = o := by unfold gd; exact @if_pos _ (Classical.propDecidable p) h _ _ _
theorem gd_inv {α : Type} {p : Prop} {o : Option α} {x : α} (h : gd p o = some x) : p ∧ o = some x := by
  by_cases hp : p
  · rw [gd_pos hp] at h; exact ⟨hp, h⟩
  · unfold gd at h
    rw [@if_neg _ (Classical.propDecidable p) hp] at h
    cases h
noncomputable def rng1 : List D → Option (List D)
  | [.int j] => gd (-1000000000 ≤ j ∧ j < 1000000000) (some (rngItems 0 j.toNat))
  | _ => none
noncomputable def rng2 : List D → Option (List D)
  | [.int i, .int j] => gd (-1000000000 ≤ i ∧ i < 1000000000 ∧ -1000000000 ≤ j ∧ j < 1000000000) (some (rngItems i (j - i).toNat))
  | _ => none
theorem vi_range1 {a : Expr} {fa : VE → Option (List Sl)} {p : Pos} (hg : Gl X "range") (hm : X.mg "range" = none) (ha : PA X [a] (tA' K M H0 fa)) (hs : starEach [a] X.env = [(false, eval a X.env)] := by rfl) : PI X tg (.Call (.Name "range" p) [a] [] pos) (tI K M H0 fun ρ => ((fa ρ).bind vals).bind rng1) :=
  (pi_range1 hg hm ha hs).mono fun σ H R' ⟨ρ, ds, R, e, q⟩ => by
    try dsimp only at e q
    cases hf : fa ρ with
    | none => rw [hf] at e; cases e
    | some ss =>
      rw [hf] at e
      cases hv : vals ss with
      | none => simp only [Option.bind, hv] at e; cases e
      | some l =>
        simp only [Option.bind, hv] at e
        unfold rng1 at e
        split at e
        · next j =>
          obtain ⟨hz, e⟩ := gd_inv e
          cases e
          refine ⟨ρ, ss, R, hf, fun vs H1 s1 h1 => ?_⟩
          have hd := vals_den h1 hv
          simp only [DenL, Den] at hd
          obtain ⟨v, r, e1, e2, e3⟩ := hd
          subst e1 e2 e3
          exact ⟨j, rfl, by omega, by omega, q _ H1 s1 rng_ok⟩
        · cases e
theorem j_vi_range1 {a : Expr} {fa : VE → Option (List Sl)} {p : Pos} (hg : Gl X "range") (hm : X.mg "range" = none) (ha : JA X [a] (tA' K M H0 fa)) (hs : starEach [a] X.env = [(false, eval a X.env)] := by rfl) : JI X tg (.Call (.Name "range" p) [a] [] pos) (tI K M H0 fun ρ => ((fa ρ).bind vals).bind rng1) := ⟨vi_range1 hg hm ha.h hs⟩
theorem vi_range2 {a b : Expr} {fa : VE → Option (List Sl)} {p : Pos} (hg : Gl X "range") (hm : X.mg "range" = none) (ha : PA X [a, b] (tA' K M H0 fa)) (hs : starEach [a, b] X.env = [(false, eval a X.env), (false, eval b X.env)] := by rfl) (hs2 : starEach [b] X.env = [(false, eval b X.env)] := by rfl) :
    PI X tg (.Call (.Name "range" p) [a, b] [] pos) (tI K M H0 fun ρ => ((fa ρ).bind vals).bind rng2) :=
  (pi_range2 hg hm ha hs hs2).mono fun σ H R' ⟨ρ, ds, R, e, q⟩ => by
    try dsimp only at e q
    cases hf : fa ρ with
    | none => rw [hf] at e; cases e
    | some ss =>
      rw [hf] at e
      cases hv : vals ss with
      | none => simp only [Option.bind, hv] at e; cases e
      | some l =>
        simp only [Option.bind, hv] at e
        unfold rng2 at e
        split at e
        · next i j =>
          obtain ⟨hz, e⟩ := gd_inv e
          cases e
          refine ⟨ρ, ss, R, hf, fun vs H1 s1 h1 => ?_⟩
          have hd := vals_den h1 hv
          simp only [DenL, Den] at hd
          obtain ⟨v, r, e1, e2, v', r', e3, e4, e5⟩ := hd
          subst e2 e4 e5 e3 e1
          exact ⟨i, j, rfl, ⟨by omega, by omega, by omega, by omega⟩, q _ H1 s1 rng_ok⟩
        · cases e
theorem j_vi_range2 {a b : Expr} {fa : VE → Option (List Sl)} {p : Pos} (hg : Gl X "range") (hm : X.mg "range" = none) (ha : JA X [a, b] (tA' K M H0 fa)) (hs : starEach [a, b] X.env = [(false, eval a X.env), (false, eval b X.env)] := by rfl) (hs2 : starEach [b] X.env = [(false, eval b X.env)] := by rfl) : JI X tg (.Call (.Name "range" p) [a, b] [] pos) (tI K M H0 fun ρ => ((fa ρ).bind vals).bind rng2) := ⟨vi_range2 hg hm ha.h hs hs2⟩
end
end L2

set_option Elab.async false
set_option linter.all false
set_option maxRecDepth 100000
namespace L2
open PySem PySem.Spec PyProof.Rows

/-! ### (a, b) as a target -/
def tGs (K : PySem.W.Frag) (M : Fb) (H0 : Hp) (ws : List Nat) (b : List D → VE → Option VE) : TGs := fun vs σ H Q => ∃ ρ ds ρ', Rel K M H0 ρ σ H ∧ DenL K (Nf M ρ σ) H ds vs ∧ b ds ρ = some ρ' ∧ ∀ σ' , Rel K M H0 ρ' σ' H → Step M (Nf M ρ σ) (Nf M ρ' σ') H H → (∀ j, j ∉ ws → σ'[j]? = σ[j]?) → Q σ' H
@[simp] def bNil : List D → VE → Option VE
  | [], ρ => some ρ
  | _, _ => none
@[simp] def bCons (b : D → VE → Option VE) (c : List D → VE → Option VE) : List D → VE → Option VE
  | d :: r, ρ => (b d ρ).bind (c r)
  | _, _ => none
@[simp] def bTup (n : Nat) (b : List D → VE → Option VE) : D → VE → Option VE
  | .tup ds, ρ => if ds.length = n then b ds ρ else none
  | _, _ => none
section
variable {X : Cx} {K : PySem.W.Frag} {M : Fb} {H0 : Hp} {pos : Pos} {e tg iter : Expr} {es : List Expr} {ws ws' : List Nat} {b : D → VE → Option VE} {c : List D → VE → Option VE}
theorem vgs_nil : PGs X [] (tGs K M H0 [] bNil) := by
  intro pins s σ H vs us Q I r ⟨ρ, ds, ρ', R, hd, e, q⟩
  cases ds with
  | nil =>
    cases e
    simp only [DenL] at hd
    exact pgs_nil pins s σ H vs us Q I r ⟨hd, q σ R Step.refl fun _ _ => rfl⟩
  | cons => cases e
theorem j_vgs_nil  : JK X [] (tGs K M H0 [] bNil) := ⟨vgs_nil ⟩
theorem vgs_cons (h1 : PG X e (tG K M H0 ws b)) (h2 : PGs X es (tGs K M H0 ws' c)) (hs : (assignEach (e :: es) X.env).map (·.2) = assign e X.env :: (assignEach es X.env).map (·.2) := by rfl) : PGs X (e :: es) (tGs K M H0 (ws ++ ws') (bCons b c)) := by
  intro pins s σ H vs us Q I r ⟨ρ, ds, ρ', R, hd, e, q⟩
  cases ds with
  | nil => cases e
  | cons d ds =>
    simp only [DenL] at hd
    obtain ⟨v, vr, e1, hv, hr⟩ := hd
    subst e1
    simp only [bCons] at e
    cases hb : b d ρ with
    | none => rw [hb] at e; cases e
    | some ρ1 =>
      rw [hb] at e
      refine pgs_cons h1 h2 hs pins s σ H _ us Q I r ⟨v, vr, rfl, ρ, d, ρ1, R, hv, hb, fun σ1 R1 S1 w1 => ⟨ρ1, ds, ρ', R1, DenL.step S1 _ _ hr, e, fun σ2 R2 S2 w2 => q σ2 R2 (S1.trans S2) fun j hj => ?_⟩⟩
      rw [List.mem_append, not_or] at hj
      rw [w2 j hj.2, w1 j hj.1]
theorem j_vgs_cons (h1 : JG X e (tG K M H0 ws b)) (h2 : JK X es (tGs K M H0 ws' c)) (hs : (assignEach (e :: es) X.env).map (·.2) = assign e X.env :: (assignEach es X.env).map (·.2) := by rfl) : JK X (e :: es) (tGs K M H0 (ws ++ ws') (bCons b c)) := ⟨vgs_cons h1.h h2.h hs⟩
theorem vg_tup {k n : Nat} (hc : X.calm = true) (h : PGs X es (tGs X.K M H0 ws c))
    (hn : (assignEach es X.env).length = n := by rfl) (hst : (assignEach es X.env).findIdx? (·.1) = none := by rfl) : PG X (.Tuple es k pos) (tG X.K M H0 ws (bTup n c)) := by
  intro pins s σ H v u Q I r ⟨ρ, d, ρ', R, hd, e, q⟩
  cases d with
  | tup ds =>
    simp only [bTup] at e
    split at e
    · next hl =>
      simp only [Den] at hd
      obtain ⟨a, vs, e1, hq, hd⟩ := hd
      exact pg_tup hc h hn hst pins s σ H v u Q I r ⟨a, vs, e1, hq, by rw [← hd.length]; exact hl, ρ, ds, ρ', R, hd, e, q⟩
    · cases e
  | _ => cases e
theorem j_vg_tup {k n : Nat} (hc : X.calm = true) (h : JK X es (tGs X.K M H0 ws c)) (hn : (assignEach es X.env).length = n := by rfl) (hst : (assignEach es X.env).findIdx? (·.1) = none := by rfl) : JG X (.Tuple es k pos) (tG X.K M H0 ws (bTup n c)) := ⟨vg_tup hc h.h hn hst⟩
end

/-! ### a comprehension -/
@[simp] def lend : Option Sl → Sl
  | some (.val d) => .val d
  | some (.own xs) => .lent xs
  | some (.lent xs) => .lent xs
  | _ => .no
@[simp] def compIn (k : Nat) (oix : List Nat) (ρ : VE) : VE := List.replicate k .no ++ oix.map fun j => lend ρ[j]?
def compL (b : D → VE → Option VE) (t : VE → Option Bool) (e : VE → Option D) (ρ : VE) : List D → Option (List D)
  | [] => some []
  | d :: ds => match b d ρ with
    | none => none
    | some ρ1 => match t ρ1 with
      | some true => consO (e ρ1) (compL b t e ρ ds)
      | some false => compL b t e ρ ds
      | none => none
@[simp] def compF (k : Nat) (oix : List Nat) (f : VE → Option (List D)) (b : D → VE → Option VE) (t : VE → Option Bool) (e : VE → Option D) : VE → Option (List D) := fun ρ => (shortO (f ρ)).bind (compL b t e (compIn k oix ρ))
section
variable {X : Cx} {K : PySem.W.Frag} {M : Fb} {H0 : Hp} {pos : Pos} {tg elt iter : Expr} {ifs : List Expr} {scope : Scope} {ws : List Nat} {f : VE → Option (List D)} {b : D → VE → Option VE} {t : VE → Option Bool} {e : VE → Option D} {k : Nat} {oix : List Nat}
/-- the block's slots -/
theorem Rel.comp {ρ : VE} {σ : St} {H : Hp} (R : Rel K M H0 ρ σ H) (k : Nat) (oix : List Nat) : Rel K (Nf M ρ σ) H (compIn k oix ρ) (startC k oix σ) H ∧ ∀ a, Nf (Nf M ρ σ) (compIn k oix ρ) (startC k oix σ) a → Nf M ρ σ a := by
  have noown : ∀ (j : Nat) (xs : List D), (compIn k oix ρ)[j]? ≠ some (Sl.own xs) := fun j xs h => by
    unfold compIn at h
    rw [List.getElem?_append] at h
    split at h
    · rw [List.getElem?_replicate] at h
      split at h <;> cases h
    · rw [List.getElem?_map] at h
      cases ho : oix[j - (List.replicate k Sl.no).length]? with
      | none => rw [ho] at h; cases h
      | some o =>
        rw [ho] at h
        simp only [Option.map_some, Option.some.injEq] at h
        unfold lend at h
        split at h <;> cases h
  have nf : ∀ a, Nf (Nf M ρ σ) (compIn k oix ρ) (startC k oix σ) a → Nf M ρ σ a := fun a h => by
    rcases h with h | ⟨j, xs, h, _⟩
    · exact h
    · exact absurd h (noown j xs)
  refine ⟨⟨by simp [compIn, startC], Same.refl H, R.nh, fun j s h => ?_, fun i j xs ys a h => absurd h (noown i xs)⟩, nf⟩
  unfold compIn at h
  rw [List.getElem?_append] at h
  split at h
  · rw [List.getElem?_replicate] at h
    split at h
    · cases h; trivial
    · cases h
  · next hge =>
    rw [List.getElem?_map] at h
    have hσ : (startC k oix σ)[j]? = (oix[j - k]?).map fun i => (σ[i]?).join := by
      unfold startC
      rw [List.getElem?_append_right (by simpa using hge), List.getElem?_map]
      simp
    rw [hσ]
    simp only [List.length_replicate] at h
    cases ho : oix[j - k]? with
    | none => rw [ho] at h; cases h
    | some o =>
      rw [ho] at h
      simp only [Option.map_some, Option.some.injEq] at h
      simp only [Option.map_some, Option.join_some]
      unfold lend at h
      split at h
      · next d hd => subst h; obtain ⟨v, e1, q⟩ := R.slot o _ hd; exact ⟨v, e1, q.nw fun a ha => .inl (nf a ha)⟩
      · next xs hd =>
        subst h
        obtain ⟨a, vs, e1, z1, z2, z3, z4⟩ := R.slot o _ hd
        exact ⟨a, vs, e1, .inr ⟨o, xs, hd, join_some e1⟩, .inl z3, z4.nw fun a ha => .inl (nf a ha)⟩
      · next xs hd =>
        subst h
        obtain ⟨a, vs, e1, z1, z2, z3⟩ := R.slot o _ hd
        exact ⟨a, vs, e1, .inl z1, z2, z3.nw fun a ha => .inl (nf a ha)⟩
      · subst h; trivial
def gAll (K : PySem.W.Frag) (ws : List Nat) (b : D → VE → Option VE) : TG := fun v σ H Q => ∃ M H0, tG K M H0 ws b v σ H Q
def tAll (K : PySem.W.Frag) (t : VE → Option Bool) : TT := fun σ H Q => ∃ M H0, tB' K M H0 t σ H Q
def eAll (K : PySem.W.Frag) (e : VE → Option D) : TE := fun σ H Q => ∃ M H0, tD K M H0 e σ H Q
theorem tComp_D (hw : ∀ j ∈ ws, j < k) {wi : TI} (hi : ∀ σ H R, tI K M H0 f σ H R → wi σ H R) {σ : St} {H : Hp} {Q : VK} (h : tF K M H0 (compF k oix f b t e) σ H Q) : tComp k oix wi (gAll K ws b) (tAll K t) (eAll K e) σ H Q := by
  obtain ⟨ρ, xs, R, ex, q⟩ := h
  try dsimp only at ex q
  unfold compF at ex
  cases hf : shortO (f ρ) with
  | none => rw [hf] at ex; cases ex
  | some ds =>
    rw [hf] at ex
    obtain ⟨hf, hz⟩ := shortO_inv hf
    have ex : compL b t e (compIn k oix ρ) ds = some xs := ex
    refine hi _ _ _ ⟨ρ, ds, R, hf, fun J H1 s1 ok => ?_⟩
    refine ⟨ds.length, fun i ys H2 => i ≤ ds.length ∧ ys.length ≤ i ∧ Same H1 H2 ∧ ∃ acc rest, DenL K (Nf M ρ σ) H2 acc ys ∧ compL b t e (compIn k oix ρ) (ds.drop i) = some rest ∧ acc ++ rest = xs, ⟨Nat.zero_le _, Nat.le_refl _, Same.refl _, [], xs, DenL.nil, ex, rfl⟩, ?_⟩
    rintro i ys H2 ⟨hle, hy, s2, acc, rest, hacc, hc, hx⟩
    obtain ⟨ok1, ok2⟩ := ok _ H2 (Step.of_same s2) i
    by_cases hlt : i < ds.length
    · obtain ⟨go, y⟩ := ok1 ds[i] (List.getElem?_eq_getElem hlt)
      rw [List.drop_eq_getElem_cons hlt] at hc
      simp only [compL] at hc
      refine .inr ⟨go, hlt, by omega, fun ys' H' => ys'.length ≤ i + 1 ∧ Same H1 H' ∧ ∃ acc rest, DenL K (Nf M ρ σ) H' acc ys' ∧ compL b t e (compIn k oix ρ) (ds.drop (i + 1)) = some rest ∧ acc ++ rest = xs, fun ys' H' z => ⟨hlt, z⟩, fun x H3 yl => ?_⟩
      obtain ⟨s3, hd⟩ := y x H3 yl
      have R3 := ((R.st s1).st s2).st s3
      obtain ⟨Rc, nf⟩ := R3.comp k oix
      cases hb : b ds[i] (compIn k oix ρ) with
      | none => rw [hb] at hc; cases hc
      | some ρ1 =>
        rw [hb] at hc
        simp only at hc
        refine ⟨Nf M ρ σ, H3, compIn k oix ρ, ds[i], ρ1, Rc, hd.nw fun a ha => .inl (nf a ha), hb, fun σ4 R4 S4 w4 => ⟨?_, ?_⟩⟩
        · apply List.ext_getElem?
          intro j
          rw [List.getElem?_drop, List.getElem?_drop]
          exact w4 _ fun hj => absurd (hw _ hj) (by omega)
        · cases ht : t ρ1 with
          | none => rw [ht] at hc; cases hc
          | some bb =>
            rw [ht] at hc
            refine ⟨Nf M ρ σ, H3, ρ1, bb, R4, ht, fun H5 s5 => ?_⟩
            cases bb with
            | true =>
              simp only at hc
              obtain ⟨yd, rest', e1, e2, e3⟩ := consO_inv hc
              refine ite_t ?_
              refine ⟨Nf M ρ σ, H3, ρ1, yd, R4.st s5, e1, fun v H6 s6 hv => ⟨?_, ((s2.trans s3).trans s5).trans s6, acc ++ [yd], rest', (hacc.same ((s3.trans s5).trans s6)).append (DenL.cons (hv.nw fun a ha => .inl (.inl ha)) DenL.nil), e2, ?_⟩⟩
              · simp only [List.length_append, List.length_singleton]; omega
              · subst e3; rw [← hx]; simp
            | false =>
              refine ite_f ?_
              exact ⟨by omega, (s2.trans s3).trans s5, acc, rest, hacc.same (s3.trans s5), hc, hx⟩
    · have ei : i = ds.length := by omega
      rw [List.drop_eq_nil_of_le (by omega)] at hc
      cases hc
      rw [List.append_nil] at hx
      subst hx
      exact .inl ⟨ok2 ei, by omega, fun p hp => tF_new (s1.trans s2) hp hacc q⟩
theorem PG.all {Y : Cx} (h : ∀ M H0, PG Y tg (tG K M H0 ws b)) : PG Y tg (gAll K ws b) := fun pins s σ H v u Q I r ⟨M, H0, z⟩ => h M H0 pins s σ H v u Q I r z
theorem PFs.all {Y : Cx} (h : ∀ M H0, PFs Y ifs (tB' K M H0 t)) : PFs Y ifs (tAll K t) := fun pins s σ H Q I ⟨M, H0, z⟩ => h M H0 pins s σ H Q I z
theorem PE.all {Y : Cx} (h : ∀ M H0, PE Y elt (tD K M H0 e)) : PE Y elt (eAll K e) := fun pins s σ H Q I ⟨M, H0, z⟩ => h M H0 pins s σ H Q I z
theorem vf_nil {Y : Cx} : PFs Y [] (tB' K M H0 fun _ => some true) := fun pins s σ H Q I ⟨ρ, b, R, e, q⟩ => pf_nil pins s σ H Q I (by cases e; exact q H (Same.refl H))
theorem j_vf_nil {Y : Cx} : JF Y [] (tB' K M H0 fun _ => some true) := ⟨vf_nil ⟩
theorem vf_one {Y : Cx} {c : Expr} (h : PT Y c (tB' K M H0 t)) : PFs Y [c] (tB' K M H0 t) := pf_one h
theorem j_vf_one {Y : Cx} {c : Expr} (h : JT Y c (tB' K M H0 t)) : JF Y [c] (tB' K M H0 t) := ⟨vf_one h.h⟩
theorem vf_comp (own outs : List Str) (oix : List Nat) (S : CompSc own outs scope X.env.scope) (hox : oix.map (fun j => X.N[j]?) = outs.map some) (hc : X.calm = true) (hi : PI X tg iter (tI K M H0 f))
    (hg : ∀ C s2 H2 fp pins M' H', PG (cxC X own outs scope C s2 H2 fp pins) tg (tG K M' H' ws b))
    (ht : ∀ C s2 H2 fp pins M' H', PFs (cxC X own outs scope C s2 H2 fp pins) ifs (tB' K M' H' t))
    (he : ∀ C s2 H2 fp pins M' H', PE (cxC X own outs scope C s2 H2 fp pins) elt (tD K M' H' e)) (hw : ∀ j ∈ ws, j < own.length)
    (hs : ∀ x, foldedSetIterable iter X.env x = pure x := by intro _; rfl) :
    PE X (.ListComp elt [⟨tg, iter, ifs, 0⟩] scope pos) (tF K M H0 (compF own.length oix f b t e)) :=
  (pe_comp own outs oix S hox hc hi (fun C s2 H2 fp pins => PG.all (hg C s2 H2 fp pins)) (fun C s2 H2 fp pins => PFs.all (ht C s2 H2 fp pins)) (fun C s2 H2 fp pins => PE.all (he C s2 H2 fp pins)) hs).mono
    fun _ _ _ z => tComp_D hw (fun _ _ _ z => z) z
theorem j_vf_comp (own outs : List Str) (oix : List Nat) (S : CompSc own outs scope X.env.scope) (hox : oix.map (fun j => X.N[j]?) = outs.map some) (hc : X.calm = true) (hi : JI X tg iter (tI K M H0 f)) (hg : ∀ C s2 H2 fp pins M' H', JG (cxC X own outs scope C s2 H2 fp pins) tg (tG K M' H' ws b)) (ht : ∀ C s2 H2 fp pins M' H', JF (cxC X own outs scope C s2 H2 fp pins) ifs (tB' K M' H' t)) (he : ∀ C s2 H2 fp pins M' H', JE (cxC X own outs scope C s2 H2 fp pins) elt (tD K M' H' e)) (hw : ∀ j ∈ ws, j < own.length) (hs : ∀ x, foldedSetIterable iter X.env x = pure x := by intro _; rfl) : JE X (.ListComp elt [⟨tg, iter, ifs, 0⟩] scope pos) (tF K M H0 (compF own.length oix f b t e)) := ⟨vf_comp own outs oix S hox hc hi.h (fun C s2 H2 fp pins M' H' => (hg C s2 H2 fp pins M' H').h) (fun C s2 H2 fp pins M' H' => (ht C s2 H2 fp pins M' H').h) (fun C s2 H2 fp pins M' H' => (he C s2 H2 fp pins M' H').h) hw hs⟩
/-- name = [..] -/
theorem vs_setComp (own outs : List Str) (oix : List Nat) {i : Nat} {x : Str} {pos' spos : Pos} (S : CompSc own outs scope X.env.scope) (hox : oix.map (fun j => X.N[j]?) = outs.map some) (hc : X.calm = true)
    (hN : X.N.Nodup) (hix : X.N[i]? = some x) (hx : X.env.scope.names.lookup x = some .local) (hi : PI X tg iter (tI K M H0 f))
    (hg : ∀ C s2 H2 fp pins M' H', PG (cxC X own outs scope C s2 H2 fp pins) tg (tG K M' H' ws b))
    (ht : ∀ C s2 H2 fp pins M' H', PFs (cxC X own outs scope C s2 H2 fp pins) ifs (tB' K M' H' t))
    (he : ∀ C s2 H2 fp pins M' H', PE (cxC X own outs scope C s2 H2 fp pins) elt (tD K M' H' e)) (hw : ∀ j ∈ ws, j < own.length)
    (hsw : swapsWith (.ListComp elt [⟨tg, iter, ifs, 0⟩] scope pos) (some (.Name x pos')) spos.line X.env = pure true := by rfl)
    (hs : ∀ x, foldedSetIterable iter X.env x = pure x := by intro _; rfl) :
    PS X (.Assign [.Name x pos'] (.ListComp elt [⟨tg, iter, ifs, 0⟩] scope pos) spos) (tS K M H0 fun ρ => setRF i (compF own.length oix f b t e ρ) ρ) :=
  (ps_setComp own outs oix S hox hc hN hix hx hi (fun C s2 H2 fp pins => PG.all (hg C s2 H2 fp pins)) (fun C s2 H2 fp pins => PFs.all (ht C s2 H2 fp pins)) (fun C s2 H2 fp pins => PE.all (he C s2 H2 fp pins)) hsw hs).mono
    fun D' σ H z => by
      have z' := tAsg_F z
      exact tComp_D hw (fun _ _ _ z => z) z'
theorem j_vs_setComp (own outs : List Str) (oix : List Nat) {i : Nat} {x : Str} {pos' spos : Pos} (S : CompSc own outs scope X.env.scope) (hox : oix.map (fun j => X.N[j]?) = outs.map some) (hc : X.calm = true) (hN : X.N.Nodup) (hix : X.N[i]? = some x) (hx : X.env.scope.names.lookup x = some .local) (hi : JI X tg iter (tI K M H0 f)) (hg : ∀ C s2 H2 fp pins M' H', JG (cxC X own outs scope C s2 H2 fp pins) tg (tG K M' H' ws b)) (ht : ∀ C s2 H2 fp pins M' H', JF (cxC X own outs scope C s2 H2 fp pins) ifs (tB' K M' H' t)) (he : ∀ C s2 H2 fp pins M' H', JE (cxC X own outs scope C s2 H2 fp pins) elt (tD K M' H' e)) (hw : ∀ j ∈ ws, j < own.length) (hsw : swapsWith (.ListComp elt [⟨tg, iter, ifs, 0⟩] scope pos) (some (.Name x pos')) spos.line X.env = pure true := by rfl) (hs : ∀ x, foldedSetIterable iter X.env x = pure x := by intro _; rfl) : JS X (.Assign [.Name x pos'] (.ListComp elt [⟨tg, iter, ifs, 0⟩] scope pos) spos) (tS K M H0 fun ρ => setRF i (compF own.length oix f b t e ρ) ρ) := ⟨vs_setComp own outs oix S hox hc hN hix hx hi.h (fun C s2 H2 fp pins M' H' => (hg C s2 H2 fp pins M' H').h) (fun C s2 H2 fp pins M' H' => (ht C s2 H2 fp pins M' H').h) (fun C s2 H2 fp pins M' H' => (he C s2 H2 fp pins M' H').h) hw hsw hs⟩
/-- the same, the list as data -/
def setRL (i : Nat) (o : Option (List D)) (ρ : VE) : Res := setR i (lstO o) ρ
theorem vs_setCompV (own outs : List Str) (oix : List Nat) {i : Nat} {x : Str} {pos' spos : Pos} (S : CompSc own outs scope X.env.scope) (hox : oix.map (fun j => X.N[j]?) = outs.map some) (hc : X.calm = true)
    (hN : X.N.Nodup) (hix : X.N[i]? = some x) (hx : X.env.scope.names.lookup x = some .local) (hi : PI X tg iter (tI K M H0 f))
    (hg : ∀ C s2 H2 fp pins M' H', PG (cxC X own outs scope C s2 H2 fp pins) tg (tG K M' H' ws b))
    (ht : ∀ C s2 H2 fp pins M' H', PFs (cxC X own outs scope C s2 H2 fp pins) ifs (tB' K M' H' t))
    (he : ∀ C s2 H2 fp pins M' H', PE (cxC X own outs scope C s2 H2 fp pins) elt (tD K M' H' e)) (hw : ∀ j ∈ ws, j < own.length)
    (hsw : swapsWith (.ListComp elt [⟨tg, iter, ifs, 0⟩] scope pos) (some (.Name x pos')) spos.line X.env = pure true := by rfl)
    (hs : ∀ x, foldedSetIterable iter X.env x = pure x := by intro _; rfl) :
    PS X (.Assign [.Name x pos'] (.ListComp elt [⟨tg, iter, ifs, 0⟩] scope pos) spos) (tS K M H0 fun ρ => setR i (lstO (compF own.length oix f b t e ρ)) ρ) :=
  (ps_setComp own outs oix S hox hc hN hix hx hi (fun C s2 H2 fp pins => PG.all (hg C s2 H2 fp pins)) (fun C s2 H2 fp pins => PFs.all (ht C s2 H2 fp pins)) (fun C s2 H2 fp pins => PE.all (he C s2 H2 fp pins)) hsw hs).mono
    fun D' σ H z => by
      have z' : tD K M H0 (fun ρ => lstO (compF own.length oix f b t e ρ)) σ H (fun x H1 => gName i x σ H1 D'.nx) := tAsg_D z
      obtain ⟨ρ, d, R, ed, q⟩ := z'
      try dsimp only at ed q
      cases hf : compF own.length oix f b t e ρ with
      | none => rw [hf] at ed; cases ed
      | some xs =>
        rw [hf] at ed; cases ed
        refine tComp_D hw (fun _ _ _ z => z) ⟨ρ, xs, R, hf, fun a vs H' s z1 z2 z3 => q _ _ s ?_⟩
        simp only [Den]
        exact ⟨a, vs, rfl, .of (R.fresh z1) z2, z3.nw fun b hb => .inl (.inl hb)⟩
theorem j_vs_setCompV (own outs : List Str) (oix : List Nat) {i : Nat} {x : Str} {pos' spos : Pos} (S : CompSc own outs scope X.env.scope) (hox : oix.map (fun j => X.N[j]?) = outs.map some) (hc : X.calm = true) (hN : X.N.Nodup) (hix : X.N[i]? = some x) (hx : X.env.scope.names.lookup x = some .local) (hi : JI X tg iter (tI K M H0 f)) (hg : ∀ C s2 H2 fp pins M' H', JG (cxC X own outs scope C s2 H2 fp pins) tg (tG K M' H' ws b)) (ht : ∀ C s2 H2 fp pins M' H', JF (cxC X own outs scope C s2 H2 fp pins) ifs (tB' K M' H' t)) (he : ∀ C s2 H2 fp pins M' H', JE (cxC X own outs scope C s2 H2 fp pins) elt (tD K M' H' e)) (hw : ∀ j ∈ ws, j < own.length) (hsw : swapsWith (.ListComp elt [⟨tg, iter, ifs, 0⟩] scope pos) (some (.Name x pos')) spos.line X.env = pure true := by rfl) (hs : ∀ x, foldedSetIterable iter X.env x = pure x := by intro _; rfl) : JS X (.Assign [.Name x pos'] (.ListComp elt [⟨tg, iter, ifs, 0⟩] scope pos) spos) (tS K M H0 fun ρ => setR i (lstO (compF own.length oix f b t e ρ)) ρ) := ⟨vs_setCompV own outs oix S hox hc hN hix hx hi.h (fun C s2 H2 fp pins M' H' => (hg C s2 H2 fp pins M' H').h) (fun C s2 H2 fp pins M' H' => (ht C s2 H2 fp pins M' H').h) (fun C s2 H2 fp pins M' H' => (he C s2 H2 fp pins M' H').h) hw hsw hs⟩
end

/-! ### while -/
def whR (t : VE → Option Bool) (g : VE → Res) : Nat → VE → Res
  | 0, _ => .fail
  | n + 1, ρ => match t ρ with
    | none => .fail
    | some false => .next ρ
    | some true => match g ρ with
      | .next ρ' => whR t g n ρ'
      | .cont ρ' => whR t g n ρ'
      | .brk ρ' => .next ρ'
      | r => r
theorem vs_while {X : Cx} {K : PySem.W.Frag} {M : Fb} {H0 : Hp} {pos : Pos} {c : Expr} {body : List Stmt} {t : VE → Option Bool} {g : VE → Res} (n : VE → Nat) (hp : PassesOwn (model X.prog X.w) X.A X.env X.xe) (hc : PT X c (tB' K M H0 t)) (hb : PSs X body (tS K M H0 g)) :
    PS X (.While c body [] pos) (tS K M H0 fun ρ => whR t g (n ρ) ρ) := (ps_while hp hc hb).mono fun D' σ H ⟨ρ, R, q⟩ => by
  try dsimp only at q
  refine ⟨fun m σi Hi => ∃ ρi, Rel K M H0 ρi σi Hi ∧ resOk K M H0 ρi σi Hi D' (whR t g m ρi), ⟨n ρ, ρ, R, q⟩, ?_⟩
  rintro m σi Hi ⟨ρi, Ri, qi⟩
  cases m with
  | zero => exact False.elim qi
  | succ m =>
    simp only [whR] at qi
    cases ht : t ρi with
    | none => rw [ht] at qi; exact False.elim qi
    | some bb =>
      rw [ht] at qi
      refine ⟨ρi, bb, Ri, ht, fun H1 s1 => ?_⟩
      cases bb with
      | false => refine ite_f ?_; exact qi σi H1 (Ri.st s1) (Step.of_same s1)
      | true =>
        simp only at qi
        refine ite_t ?_
        refine ⟨fun σ' H' => ∃ ρi, Rel K M H0 ρi σ' H' ∧ resOk K M H0 ρi σ' H' D' (whR t g m ρi), fun σ' H' z => ⟨m, Nat.lt_succ_self m, z⟩, ρi, Ri.st s1, ?_⟩
        cases hg : g ρi with
        | fail => rw [hg] at qi; exact qi
        | next ρ2 => rw [hg] at qi; exact fun σ2 H2 R2 S2 => ⟨ρ2, R2, resOk.from ((Step.of_same s1).trans S2) qi⟩
        | cont ρ2 => rw [hg] at qi; exact fun σ2 H2 R2 S2 => ⟨ρ2, R2, resOk.from ((Step.of_same s1).trans S2) qi⟩
        | brk ρ2 => rw [hg] at qi; exact fun σ2 H2 R2 S2 => qi σ2 H2 R2 ((Step.of_same s1).trans S2)
        | ret r => rw [hg] at qi; exact qi

theorem j_vs_while {X : Cx} {K : PySem.W.Frag} {M : Fb} {H0 : Hp} {pos : Pos} {c : Expr} {body : List Stmt} {t : VE → Option Bool} {g : VE → Res} (n : VE → Nat) (hp : PassesOwn (model X.prog X.w) X.A X.env X.xe) (hc : JT X c (tB' K M H0 t)) (hb : JB X body (tS K M H0 g)) : JS X (.While c body [] pos) (tS K M H0 fun ρ => whR t g (n ρ) ρ) := ⟨vs_while n hp hc.h hb.h⟩
/-! ### a def -/
def fnP (np n : Nat) (g : VE → Res) : List Sl → Option Rv := fun ss => if ss.length = np then
    match g (ss ++ List.replicate (n - np) .no) with
    | .ret r => some r
    | .next _ => some (.val .non)
    | _ => none
  else none
theorem start_rel {K : PySem.W.Frag} {N : Fb} {H : Hp} {ss : List Sl} {vs : List V} (nh : ∀ a, N a → H a ≠ none) (h : ArgsOk K N H ss vs) (n : Nat) : Rel K N H (ss ++ List.replicate n .no) (vs.map some ++ List.replicate n none) H := by
  have hl := h.length
  have noown : ∀ (j : Nat) (xs : List D), (ss ++ List.replicate n Sl.no)[j]? ≠ some (Sl.own xs) := fun j xs e => by
    rw [List.getElem?_append] at e
    split at e
    · obtain ⟨v, _, q⟩ := h.get e; exact q
    · rw [List.getElem?_replicate] at e
      split at e <;> cases e
  have nf : ∀ a, Nf N (ss ++ List.replicate n Sl.no) (vs.map some ++ List.replicate n none) a → N a := fun a z => by
    rcases z with z | ⟨j, xs, z, _⟩
    · exact z
    · exact absurd z (noown j xs)
  refine ⟨by simp [hl], Same.refl H, nh, fun j s e => ?_, fun i j xs ys a z => absurd z (noown i xs)⟩
  rw [List.getElem?_append] at e
  split at e
  · next hj =>
    obtain ⟨v, ev, q⟩ := h.get e
    rw [List.getElem?_append_left (by simpa [← hl] using hj), List.getElem?_map, ev]
    cases s with
    | val d => exact ⟨v, rfl, Den.nw q fun a ha => .inl (nf a ha)⟩
    | lent xs => obtain ⟨a, us, e1, z1, z2, z3⟩ := q; exact ⟨a, us, by rw [e1]; rfl, z1, z2, z3.nw fun a ha => .inl (nf a ha)⟩
    | no => trivial
    | own xs => exact False.elim q
  · rw [List.getElem?_replicate] at e
    split at e
    · cases e; trivial
    · cases e
theorem fn_ok {P : Program} {w : World} {K : PySem.W.Frag} {mg : Str → Option Value} {base : Heap} {x qual : Str} {st : Stmt} {f : Addr} {fd : FuncData} {N ps : List Str} {k : Nat} {g : VE → Res} (F : Fun K x qual st f fd) (S : FnScope N ps (defScope st)) (hnp : ps.length ≤ N.length)
    (hb : ∀ (cdv : Value) (A : Around) (outer : List Env) (s : Shared) (H : Hp) (E : XK) (M : Fb) (H0 : Hp), Room k (A.deeper (envOfC qual (defScope st) s.heap.objs.size f cdv)) →
      PSs (cxOf CX0 P w K mg base N qual (defScope st) f cdv A outer s H E).nox (defBody st) (tS K M H0 g)) : FnOk P w K mg base CX0 (k + 1) f fd ps (spD K (fnP ps.length N.length g)) := by
  refine F.ok S (fun vs H Q E h => ?_) (fun cdv A outer s H vs Q E hr h => ?_)
  · obtain ⟨N', ss, r, nh, ha, hF, q⟩ := h
    unfold fnP at hF
    split at hF
    · next hl => rw [← ha.length]; exact hl
    · cases hF
  · obtain ⟨N', ss, r, nh, ha, hF, q⟩ := h
    refine ⟨_, hb cdv A outer s H E N' H hr, ?_⟩
    unfold fnP at hF
    split at hF
    · next hl =>
      have hs : start N vs = vs.map some ++ List.replicate (N.length - ps.length) none := by unfold start; rw [← ha.length, hl]
      rw [hs]
      refine ⟨_, start_rel nh ha (N.length - ps.length), ?_⟩
      cases hg : g (ss ++ List.replicate (N.length - ps.length) .no) with
      | fail => rw [hg] at hF; cases hF
      | next ρ' => rw [hg] at hF; cases hF; exact fun σ' H' R' S' => q .non H' R'.same (by simp only [RvOk, Den])
      | brk ρ' => rw [hg] at hF; cases hF
      | cont ρ' => rw [hg] at hF; cases hF
      | ret r' => rw [hg] at hF; cases hF; exact fun v H' s hv => q v H' s hv
    · cases hF
theorem fn_okJ {P : Program} {w : World} {K : PySem.W.Frag} {mg : Str → Option Value} {base : Heap} {x qual : Str} {st : Stmt} {f : Addr} {fd : FuncData} {N ps : List Str} {k : Nat} {g : VE → Res} (F : Fun K x qual st f fd) (S : FnScope N ps (defScope st)) (hnp : ps.length ≤ N.length)
    (hb : ∀ (cdv : Value) (A : Around) (outer : List Env) (s : Shared) (H : Hp) (E : XK) (M : Fb) (H0 : Hp), Room k (A.deeper (envOfC qual (defScope st) s.heap.objs.size f cdv)) →
      JB (cxOf CX0 P w K mg base N qual (defScope st) f cdv A outer s H E).nox (defBody st) (tS K M H0 g)) : FnOk P w K mg base CX0 (k + 1) f fd ps (spD K (fnP ps.length N.length g)) :=
  fn_ok F S hnp fun cdv A outer s H E M H0 hr => (hb cdv A outer s H E M H0 hr).h
/-- the law itself -/
theorem law_ok {P : Program} {w : World} {K : PySem.W.Frag} {mg : Str → Option Value} {base : Heap} {k : Nat} {f : Addr} {fd : FuncData} {F : List Sl → Option Rv} (G : FnOk P w K mg base CX0 k f fd ["_law_script"] (spD K F))
    (h : ∀ ns : List Int, ns.length ≤ 63 → F [.val (.lst (ns.map D.int))] = some (.val (.bl true))) : FnOk P w K mg base CX0 k f fd ["_law_script"] (spLaw K) :=
  G.imp fun vs H Q E ⟨a, ns, e, hs, hl, q⟩ => by
    refine ⟨fun _ => False, [.val (.lst (ns.map D.int))], .val (.bl true), fun _ z => z.elim, ⟨_, [], e, ?_, rfl⟩, h ns hl, fun v H' s hv => ?_⟩
    · simp only [ArgOk, Den]
      exact ⟨a, _, rfl, .of_sq hs, DenL.ints ns⟩
    · simp only [RvOk, Den] at hv
      subst hv; exact q H'
end L2

set_option Elab.async false
set_option linter.all false
set_option maxRecDepth 100000
namespace L2
open PySem PySem.Spec PyProof.Rows

/-! ### ints -/
section
variable {K : PySem.W.Frag}
@[simp] def i2 (g : Int → Int → Option D) : D → D → Option D
  | .int i, .int j => g i j
  | _, _ => none
theorem i2_inv {g : Int → Int → Option D} {x y d : D} (h : i2 g x y = some d) : ∃ i j, x = .int i ∧ y = .int j ∧ g i j = some d := by
  unfold i2 at h
  split at h
  · exact ⟨_, _, rfl, rfl, h⟩
  · cases h
theorem DenP.int {N : Fb} {H : Hp} {i : Int} {v : V} (h : DenP K N H (.int i) v) : v = .int i := by simpa only [DenP, Den] using h
theorem DenP.str {N : Fb} {H : Hp} {i : Str} {v : V} (h : DenP K N H (.str i) v) : v = .str i := by simpa only [DenP, Den] using h
theorem DenP.bl {N : Fb} {H : Hp} {i : Bool} {v : V} (h : DenP K N H (.bl i) v) : v = .bl i := by simpa only [DenP, Den] using h
theorem DenP.non {N : Fb} {H : Hp} {v : V} (h : DenP K N H .non v) : v = .non := by simpa only [DenP, Den] using h
theorem DenP.ty {N : Fb} {H : Hp} {i : String} {v : V} (h : DenP K N H (.ty i) v) : v = .ty i := by simpa only [DenP, Den] using h
theorem DenP.tup {N : Fb} {H : Hp} {xs : List D} {v : V} (h : DenP K N H (.tup xs) v) : ∃ a vs, v = .ref a ∧ SqT K H a vs ∧ DenL K N H xs vs := by simpa only [DenP, Den] using h
theorem den_int {N : Fb} {H : Hp} {i : Int} : Den K N H (.int i) (.int i) := by simp only [Den]
theorem den_bl {N : Fb} {H : Hp} {i : Bool} : Den K N H (.bl i) (.bl i) := by simp only [Den]
theorem den_str {N : Fb} {H : Hp} {i : Str} : Den K N H (.str i) (.str i) := by simp only [Den]
theorem den_non {N : Fb} {H : Hp} : Den K N H .non .non := by simp only [Den]
theorem r2_i0 (g : Int → Int → Int) : R2D K (rI0 fun i j => .int (g i j)) (i2 fun i j => some (.int (g i j))) := by
  intro N H x y d1 d2 d Q nh h1 h2 e q
  obtain ⟨i, j, rfl, rfl, e⟩ := i2_inv e
  cases e
  exact ⟨i, j, h1.int, h2.int, q _ H (Same.refl H) den_int⟩
theorem r2_b0 (g : Int → Int → Bool) : R2D K (rI0 fun i j => .bl (g i j)) (i2 fun i j => some (.bl (g i j))) := by
  intro N H x y d1 d2 d Q nh h1 h2 e q
  obtain ⟨i, j, rfl, rfl, e⟩ := i2_inv e
  cases e
  exact ⟨i, j, h1.int, h2.int, q _ H (Same.refl H) den_bl⟩
theorem r2_i {C : Int → Int → Prop} [∀ i j, Decidable (C i j)] (g : Int → Int → Int) : R2D K (rI C fun i j => .int (g i j)) (i2 fun i j => if C i j then some (.int (g i j)) else none) := by
  intro N H x y d1 d2 d Q nh h1 h2 e q
  obtain ⟨i, j, rfl, rfl, e'⟩ := i2_inv e
  split at e'
  · next hc => cases e'; exact ⟨i, j, h1.int, h2.int, hc, q _ H (Same.refl H) den_int⟩
  · cases e'
instance (i j : Int) : Decidable (CDiv i j) := by unfold CDiv; exact inferInstance
instance (i j : Int) : Decidable (CMul i j) := by unfold CMul; exact inferInstance
instance (i j : Int) : Decidable (CPow i j) := by unfold CPow; exact inferInstance
@[simp] def subD : D → D → Option D := i2 fun i j => some (.int (i - j))
@[simp] def mulD : D → D → Option D := i2 fun i j => if CMul i j then some (.int (i * j)) else none
@[simp] def fdivD : D → D → Option D := i2 fun i j => if CDiv i j then some (.int (i / j)) else none
@[simp] def modD : D → D → Option D := i2 fun i j => if 0 < j then some (.int (i % j)) else none
@[simp] def powD : D → D → Option D := i2 fun i j => if CPow i j then some (.int (i ^ j.toNat)) else none
@[simp] def leD : D → D → Option D := i2 fun i j => some (.bl (decide (i ≤ j)))
@[simp] def gtD : D → D → Option D := i2 fun i j => some (.bl (decide (j < i)))
@[simp] def geD : D → D → Option D := i2 fun i j => some (.bl (decide (j ≤ i)))
section
variable {X : Cx} {M : Fb} {H0 : Hp} {a b : Expr} {f g : VE → Option D} {pos : Pos}
theorem ve_sub (ha : PE X a (tP K M H0 f)) (hb : PE X b (tP K M H0 g)) : PE X (.BinOp a .Sub b pos) (tD K M H0 (bin2 subD f g)) := ve_op op_sub (r2_i0 _) ha hb
theorem j_ve_sub (ha : JE X a (tP K M H0 f)) (hb : JE X b (tP K M H0 g)) : JE X (.BinOp a .Sub b pos) (tD K M H0 (bin2 subD f g)) := ⟨ve_sub ha.h hb.h⟩
theorem ve_mul (ha : PE X a (tP K M H0 f)) (hb : PE X b (tP K M H0 g)) : PE X (.BinOp a .Mult b pos) (tD K M H0 (bin2 mulD f g)) := ve_op op_mul (r2_i _) ha hb
theorem j_ve_mul (ha : JE X a (tP K M H0 f)) (hb : JE X b (tP K M H0 g)) : JE X (.BinOp a .Mult b pos) (tD K M H0 (bin2 mulD f g)) := ⟨ve_mul ha.h hb.h⟩
theorem ve_fdiv (ha : PE X a (tP K M H0 f)) (hb : PE X b (tP K M H0 g)) : PE X (.BinOp a .FloorDiv b pos) (tD K M H0 (bin2 fdivD f g)) := ve_op op_fdiv (r2_i _) ha hb
theorem j_ve_fdiv (ha : JE X a (tP K M H0 f)) (hb : JE X b (tP K M H0 g)) : JE X (.BinOp a .FloorDiv b pos) (tD K M H0 (bin2 fdivD f g)) := ⟨ve_fdiv ha.h hb.h⟩
theorem ve_mod (ha : PE X a (tP K M H0 f)) (hb : PE X b (tP K M H0 g)) : PE X (.BinOp a .Mod b pos) (tD K M H0 (bin2 modD f g)) := ve_op op_mod (r2_i _) ha hb
theorem j_ve_mod (ha : JE X a (tP K M H0 f)) (hb : JE X b (tP K M H0 g)) : JE X (.BinOp a .Mod b pos) (tD K M H0 (bin2 modD f g)) := ⟨ve_mod ha.h hb.h⟩
theorem ve_pow (ha : PE X a (tP K M H0 f)) (hb : PE X b (tP K M H0 g)) : PE X (.BinOp a .Pow b pos) (tD K M H0 (bin2 powD f g)) := ve_op op_pow (r2_i _) ha hb
theorem j_ve_pow (ha : JE X a (tP K M H0 f)) (hb : JE X b (tP K M H0 g)) : JE X (.BinOp a .Pow b pos) (tD K M H0 (bin2 powD f g)) := ⟨ve_pow ha.h hb.h⟩
@[simp] def negD : Option D → Option D
  | some (.int i) => some (.int (-i))
  | _ => none
theorem ve_neg (ha : PE X a (tP K M H0 f)) : PE X (.UnaryOp .USub a pos) (tD K M H0 fun ρ => negD (f ρ)) := (pe_un un_neg ha).mono fun σ H Q ⟨ρ, d, R, e, q⟩ => by
  try dsimp only at e q
  unfold negD at e
  split at e
  · next i hf => cases e; exact ⟨ρ, .int i, R, hf, fun v H' s hv => ⟨i, hv.int, q _ H' s den_int⟩⟩
  · cases e
theorem j_ve_neg (ha : JE X a (tP K M H0 f)) : JE X (.UnaryOp .USub a pos) (tD K M H0 fun ρ => negD (f ρ)) := ⟨ve_neg ha.h⟩
end
end

/-! ### + of lists and tuples -/
section
variable {X : Cx}
def rCatG (K : PySem.W.Frag) : R2 := fun x y H Q => ∃ l b xs zs, x = .ref l ∧ y = .ref b ∧ SqL K H l xs ∧ SqL K H b zs ∧ xs.length + zs.length ≤ sizeLine ∧ ∀ p, H p = none → Q (.ref p) (upd H p (.lst (xs ++ zs)))
theorem op_catG : OpR X (binaryOp .Add) (rCatG X.K) := by
  intro pins s σ H x y v u Q I rx ry h
  obtain ⟨l, b, xs, zs, rfl, rfl, hH, hB, hz, q⟩ := h
  cases rx
  cases ry
  obtain ⟨its, r, p1, z1⟩ := I.list hH
  obtain ⟨its2, r2, p2, z2⟩ := I.list hB
  have hl := r.length
  have hl2 := r2.length
  obtain ⟨⟨cls, dd, data, sl⟩, ho, hc, n, hd⟩ := p1.isList
  obtain ⟨⟨cls2, dd2, data2, sl2⟩, ho2, hc2, n2, hd2⟩ := p2.isList
  simp only at hc hd hc2 hd2
  subst hc hd hc2 hd2
  have e : its.toArray ++ its2.toArray = (its ++ its2).toArray := by simp
  refine concat_meets ⟨_, ho, rfl⟩ ⟨_, ho2, rfl⟩ noFill_list_add seq_list_add PySem.F.slot_list_add PySem.F.entry_list_add (PySem.F.args_list_add_2 _ _) (list_addW l b its.toArray its2.toArray n n2 dd dd2 sl sl2 (by rw [List.size_toArray, List.size_toArray]; omega)) ⟨ho, ho2, ?_⟩
  rw [e]
  exact ⟨.ref _, _, I.lnew (t' := s.toks) (r.append r2) (by rw [List.length_append]; omega), rfl, q _ I.fresh⟩
def rCatGT (K : PySem.W.Frag) : R2 := fun x y H Q => ∃ l b xs zs, x = .ref l ∧ y = .ref b ∧ SqT K H l xs ∧ SqT K H b zs ∧ xs.length + zs.length ≤ sizeLine ∧
  (xs = [] → Q (.ref b) H) ∧ (zs = [] → Q (.ref l) H) ∧ ∀ p, H p = none → Q (.ref p) (upd H p (.tup (xs ++ zs)))
theorem op_catGT : OpR X (binaryOp .Add) (rCatGT X.K) := by
  intro pins s σ H x y v u Q I rx ry h
  obtain ⟨l, b, xs, zs, rfl, rfl, hH, hB, hz, qx, qz, q⟩ := h
  cases rx
  cases ry
  obtain ⟨its, r, p1, z1⟩ := I.tuple hH
  obtain ⟨its2, r2, p2, z2⟩ := I.tuple hB
  have hl := r.length
  have hl2 := r2.length
  obtain ⟨⟨cls, dd, data, sl⟩, ho, hc, n, hd⟩ := id p1
  obtain ⟨⟨cls2, dd2, data2, sl2⟩, ho2, hc2, n2, hd2⟩ := id p2
  simp only at hc hd hc2 hd2
  subst hc hd hc2 hd2
  by_cases h1 : xs = []
  · have hi : its.toArray.isEmpty = true := by
      subst h1
      have : its = [] := List.length_eq_zero_iff.mp hl.symm
      subst this; rfl
    exact concat_meets ⟨_, ho, rfl⟩ ⟨_, ho2, rfl⟩ noFill_tuple_add seq_tuple_add PySem.F.slot_tuple_add PySem.F.entry_tuple_add (PySem.F.args_tuple_add_2 _ _) (tuple_addW0 l b its.toArray its2.toArray n n2 dd dd2 sl sl2 hi) ⟨ho, ho2, ⟨.ref b, H, I, rfl, qx h1⟩⟩
  · have hi : ¬ its.toArray.isEmpty = true := by
      intro z
      have : its = [] := by simpa using z
      subst this
      exact h1 (List.length_eq_zero_iff.mp hl)
    by_cases h2 : zs = []
    · have hi2 : its2.toArray.isEmpty = true := by
        subst h2
        have : its2 = [] := List.length_eq_zero_iff.mp hl2.symm
        subst this; rfl
      exact concat_meets ⟨_, ho, rfl⟩ ⟨_, ho2, rfl⟩ noFill_tuple_add seq_tuple_add PySem.F.slot_tuple_add PySem.F.entry_tuple_add (PySem.F.args_tuple_add_2 _ _) (tuple_addW1 l b its.toArray its2.toArray n n2 dd dd2 sl sl2 hi hi2) ⟨ho, ho2, ⟨.ref l, H, I, rfl, qz h2⟩⟩
    · have hi2 : ¬ its2.toArray.isEmpty = true := by
        intro z
        have : its2 = [] := by simpa using z
        subst this
        exact h2 (List.length_eq_zero_iff.mp hl2)
      have e : its.toArray ++ its2.toArray = (its ++ its2).toArray := by simp
      refine concat_meets ⟨_, ho, rfl⟩ ⟨_, ho2, rfl⟩ noFill_tuple_add seq_tuple_add PySem.F.slot_tuple_add PySem.F.entry_tuple_add (PySem.F.args_tuple_add_2 _ _) (tuple_addW2 l b its.toArray its2.toArray n n2 dd dd2 sl sl2 hi hi2 (by rw [List.size_toArray, List.size_toArray]; omega)) ⟨ho, ho2, ?_⟩
      rw [e]
      refine ⟨.ref s.heap.objs.size, upd H s.heap.objs.size (.tup (xs ++ zs)), I.laid (t' := s.toks) (fun b u e => Heap.get?_push_of_some _ e) (Nat.le_refl _) ?_, rfl, q _ I.fresh⟩
      exact ⟨by rw [List.length_append]; omega, its ++ its2, r.append r2, IsTup.new _ _⟩
end
@[simp] def addD : D → D → Option D
  | .int i, .int j => some (.int (i + j))
  | .str x, .str y => if x.length + y.length ≤ sizeLine then some (.str (x ++ y)) else none
  | .lst xs, .lst ys => if xs.length + ys.length ≤ sizeLine then some (.lst (xs ++ ys)) else none
  | .tup xs, .tup ys => if xs.length + ys.length ≤ sizeLine then some (.tup (xs ++ ys)) else none
  | _, _ => none
def rAddD (K : PySem.W.Frag) : R2 := fun x y H Q => rI0 (fun i j => .int (i + j)) x y H Q ∨ (∃ i j, x = .str i ∧ y = .str j ∧ i.length + j.length ≤ sizeLine ∧ Q (.str (i ++ j)) H) ∨ rCatG K x y H Q ∨ rCatGT K x y H Q
theorem op_addD {X : Cx} : OpR X (binaryOp .Add) (rAddD X.K) := op_add.or (op_add_str.or (op_catG.or op_catGT))
theorem den_newL {K : PySem.W.Frag} {N : Fb} {H : Hp} {xs : List D} {vs : List V} {p : Addr} (nh : ∀ a, N a → H a ≠ none) (hp : H p = none) (h : DenL K N H xs vs) : Den K N (upd H p (.lst vs)) (.lst xs) (.ref p) := by
  simp only [Den]
  exact ⟨p, vs, rfl, .of (fun z => nh p z hp) upd_same, h.same (same_new hp)⟩
theorem den_newT {K : PySem.W.Frag} {N : Fb} {H : Hp} {xs : List D} {vs : List V} {p : Addr} (hp : H p = none) (h : DenL K N H xs vs) : Den K N (upd H p (.tup vs)) (.tup xs) (.ref p) := by
  simp only [Den]
  exact ⟨p, vs, rfl, SqT.of upd_same, h.same (same_new hp)⟩
theorem r2_add {K : PySem.W.Frag} : R2D K (rAddD K) addD := by
  intro N H x y d1 d2 d Q nh h1 h2 e q
  unfold addD at e
  split at e
  · cases e; exact .inl ⟨_, _, h1.int, h2.int, q _ H (Same.refl H) den_int⟩
  · split at e
    · next hz => cases e; exact .inr (.inl ⟨_, _, h1.str, h2.str, hz, q _ H (Same.refl H) den_str⟩)
    · cases e
  · split at e
    · next hz =>
      cases e
      obtain ⟨a, vs, e1, q1, r1⟩ := h1
      obtain ⟨b, ws, e2, q2, r2⟩ := h2
      exact .inr (.inr (.inl ⟨a, b, vs, ws, e1, e2, q1, q2, by rw [← r1.length, ← r2.length]; exact hz, fun p hp => q _ _ (same_new hp) (den_newL nh hp (r1.append r2))⟩))
    · cases e
  · split at e
    · next hz =>
      cases e
      obtain ⟨a, vs, e1, q1, r1⟩ := h1.tup
      obtain ⟨b, ws, e2, q2, r2⟩ := h2.tup
      refine .inr (.inr (.inr ⟨a, b, vs, ws, e1, e2, q1, q2, by rw [← r1.length, ← r2.length]; exact hz, fun z => ?_, fun z => ?_, fun p hp => q _ _ (same_new hp) (den_newT hp (r1.append r2))⟩))
      · refine q _ H (Same.refl H) ?_
        simp only [Den]
        exact ⟨b, vs ++ ws, rfl, by rw [z]; exact q2, r1.append r2⟩
      · refine q _ H (Same.refl H) ?_
        simp only [Den]
        exact ⟨a, vs ++ ws, rfl, by rw [z, List.append_nil]; exact q1, r1.append r2⟩
    · cases e
  · cases e
theorem ve_add {X : Cx} {M : Fb} {H0 : Hp} {a b : Expr} {f g : VE → Option D} {pos : Pos} (ha : PE X a (tP X.K M H0 f)) (hb : PE X b (tP X.K M H0 g)) : PE X (.BinOp a .Add b pos) (tD X.K M H0 (bin2 addD f g)) := ve_op op_addD r2_add ha hb

theorem j_ve_add {X : Cx} {M : Fb} {H0 : Hp} {a b : Expr} {f g : VE → Option D} {pos : Pos} (ha : JE X a (tP X.K M H0 f)) (hb : JE X b (tP X.K M H0 g)) : JE X (.BinOp a .Add b pos) (tD X.K M H0 (bin2 addD f g)) := ⟨ve_add ha.h hb.h⟩
/-! ### items, slices -/
section
variable {prog : Program} {w : World} {A : Around} {E : Value → Shared → Prop} {s : Shared}
theorem getItem_tuple_whole {t sl : Addr} {items : Array Value} {vl vu : Value} {lo hi : Option Int} {Q : Value → Shared → Prop} (ht : IsTup s.heap t items) (hs : s.heap.IsSliceOf sl vl vu .none) (pl : IsPart vl lo) (pu : IsPart vu hi)
    (hw : HT.sIx items.size 0 lo = 0 ∧ HT.sIx items.size items.size hi = items.size) (h : Q (.ref t) s) : wpAny (model prog w) A (getItem (.ref t) (.ref sl)) Q E s := by
  obtain ⟨os, hos, hcs, hds⟩ := id hs
  have hTs : s.TypeIs (.ref sl) "slice" := ⟨os, hos, hcs⟩
  unfold getItem
  try with_reducible refine wpAny_holding ?_
  first | refine wpAny_bind (wpAny_pure ?_) | skip
  refine wpAny_bind (wpAny_sequenceKey ht.typeIs (by decide) ?_)
  refine wpAny_bind (wpAny_callSpecial?_slot (name := Str.ofString "__getitem__") ht.typeIs PyProof.Rows.slot_tuple_getitem
    (wpAny_call_entry PyProof.Rows.slot_tuple_getitem ht.typeIs entry_tuple_getitem ?_ (args_tuple_getitem _ _)))
  show wpAny _ _ (Builtin.Tuple.tupleItemsOf (.ref t) >>= _) _ _ s
  refine wpAny_bind (PyProof.Rows.tupleItemsOf_ ht ?_)
  refine wpAny_bind (wpAny_typeOf hTs ?_)
  rw [if_pos (by decide)]
  refine wpAny_bind (HT.sliceApplied_gen hs pl pu ?_)
  have hyes : (((HT.sIx items.size 0 lo : Nat) : Int) == 0 && (1 : Int) == 1 && (HT.sIx items.size items.size hi - HT.sIx items.size 0 lo) == items.size) = true := by
    rw [hw.1, hw.2]; simp
  show wpAny _ _ (if (((HT.sIx items.size 0 lo : Nat) : Int) == 0 && (1 : Int) == 1 && (HT.sIx items.size items.size hi - HT.sIx items.size 0 lo) == items.size) = true then _ else _) _ _ s
  rw [if_pos hyes]
  unfold Builtin.Tuple.tupleIsExact
  refine wpAny_bind (wpAny_bind (wpAny_typeOf ht.typeIs (wpAny_pure ?_)))
  rw [if_pos (by decide)]
  exact wpAny_bind (wpAny_rule (wpAny_pure ⟨_, rfl, wpAny_pure h⟩))
end
def rSlTG (K : PySem.W.Frag) : V → Option Int → Option Int → Hp → VK → Prop := fun x lo hi H Q => ∃ a xs, x = .ref a ∧ SqT K H a xs ∧ (cutV xs lo hi = xs → Q (.ref a) H) ∧ ∀ p, H p = none → Q (.ref p) (upd H p (.tup (cutV xs lo hi)))
theorem sl_tupG {X : Cx} : SlR X (rSlTG X.K) := by
  intro pins s σ H x v vl vu lo hi sl Q I rx hs pl pu h
  obtain ⟨a, xs, rfl, hx, qw, q⟩ := h
  by_cases hw : HT.sIx xs.length 0 lo = 0 ∧ HT.sIx xs.length xs.length hi = xs.length
  · cases rx
    obtain ⟨its, r, ht, hz⟩ := I.tuple hx
    have hlen : its.toArray.size = xs.length := by rw [List.size_toArray]; exact r.length.symm
    refine ⟨"tuple", _, PyProof.Rows.slot_tuple_getitem.lookup, ht.typeIs, getItem_tuple_whole ht hs pl pu (by rw [hlen]; exact hw) ⟨.ref a, H, I, rfl, qw ?_⟩⟩
    unfold cutV
    rw [hw.1, hw.2, List.drop_zero, Nat.sub_zero, List.take_length]
  · exact sl_tup pins s σ H _ v vl vu lo hi sl Q I rx hs pl pu ⟨a, xs, rfl, hx, hw, q⟩
@[simp] def ixD : D → D → Option D
  | .lst xs, .int i => atI xs i
  | .tup xs, .int i => atI xs i
  | .str x, .int i => if x.length ≤ sizeLine then (atI x.cps.toList i).map fun c => .str ⟨#[c]⟩ else none
  | _, _ => none
theorem DenL.atI {K : PySem.W.Frag} {N : Fb} {H : Hp} {xs : List D} {vs : List V} {i : Int} {d : D} (h : DenL K N H xs vs) (e : L2.atI xs i = some d) : ∃ v, L2.atI vs i = some v ∧ Den K N H d v := by
  unfold L2.atI at e ⊢
  rw [← h.length]
  cases hj : ixN xs.length i with
  | none => rw [hj] at e; cases e
  | some j => rw [hj] at e; exact h.get e
theorem r2_ix {K : PySem.W.Frag} : R2D K (rIx K) ixD := by
  intro N H x y d1 d2 d Q nh h1 h2 e q
  unfold ixD at e
  split at e
  · obtain ⟨a, vs, e1, q1, r1⟩ := h1
    obtain ⟨v, ev, hv⟩ := r1.atI e
    exact .inl ⟨a, vs, _, v, e1, h2.int, q1, ev, q v H (Same.refl H) hv⟩
  · obtain ⟨a, vs, e1, q1, r1⟩ := h1.tup
    obtain ⟨v, ev, hv⟩ := r1.atI e
    exact .inr (.inl ⟨a, vs, _, v, e1, h2.int, q1, ev, q v H (Same.refl H) hv⟩)
  · split at e
    · next z i hz =>
      cases hc : atI z.cps.toList i with
      | none => rw [hc] at e; cases e
      | some c => rw [hc] at e; cases e; exact .inr (.inr ⟨z, i, c, h1.str, h2.int, hz, hc, q _ H (Same.refl H) den_str⟩)
    · cases e
  · cases e
section
variable {X : Cx} {K : PySem.W.Frag} {M : Fb} {H0 : Hp} {a b e : Expr} {f g : VE → Option D} {pos p2 : Pos}
theorem ve_item (ha : PE X a (tP X.K M H0 f)) (hb : PE X b (tP X.K M H0 g)) (hs : PlainIx b) : PE X (.Subscript a b pos) (tD X.K M H0 (bin2 ixD f g)) := ve_ix ix_seq r2_ix ha hb hs
theorem j_ve_item (ha : JE X a (tP X.K M H0 f)) (hb : JE X b (tP X.K M H0 g)) (hs : PlainIx b) : JE X (.Subscript a b pos) (tD X.K M H0 (bin2 ixD f g)) := ⟨ve_item ha.h hb.h hs⟩
/-- a bound of a slice -/
def tO (K : PySem.W.Frag) (M : Fb) (H0 : Hp) (o : VE → Option (Option Int)) : TO := fun σ H Q => ∃ ρ i, Rel K M H0 ρ σ H ∧ o ρ = some i ∧ ∀ H', Same H H' → Q i H'
@[simp] def asI : Option D → Option (Option Int)
  | some (.int i) => some (some i)
  | _ => none
theorem PO.mono {e : Option Expr} {t t' : TO} (h : PO X e t) (m : ∀ σ H Q, t' σ H Q → t σ H Q) : PO X e t' := by
  intro pins s σ H Q I q
  exact h pins s σ H Q I (m σ H Q q)
theorem vo_none : PO X none (tO K M H0 fun _ => some none) := PO.mono po_none fun σ H Q ⟨ρ, i, R, e, q⟩ => by (try dsimp only at e q); cases e; exact q H (Same.refl H)
theorem j_vo_none  : JO X none (tO K M H0 fun _ => some none) := ⟨vo_none ⟩
theorem vo_some (h : PE X e (tP K M H0 f)) : PO X (some e) (tO K M H0 fun ρ => asI (f ρ)) := PO.mono (po_some h) fun σ H Q ⟨ρ, i, R, e, q⟩ => by
  try dsimp only at e q
  unfold asI at e
  split at e
  · next j hf => cases e; exact ⟨ρ, .int j, R, hf, fun v H' s hv => ⟨j, hv.int, q H' s⟩⟩
  · cases e
theorem j_vo_some (h : JE X e (tP K M H0 f)) : JO X (some e) (tO K M H0 fun ρ => asI (f ρ)) := ⟨vo_some h.h⟩
def cutD {α : Type} (xs : List α) (lo hi : Option Int) : List α := (xs.drop (HT.sIx xs.length 0 lo)).take (HT.sIx xs.length xs.length hi - HT.sIx xs.length 0 lo)
@[simp] def slD (x : D) (lo hi : Option Int) : Option D := match x with
  | .lst xs => some (.lst (cutD xs lo hi))
  | .tup xs => some (.tup (cutD xs lo hi))
  | .str x => if x.length ≤ sizeLine then some (.str (Txt.slice x lo hi)) else none
  | _ => none
@[simp] def slL (x : D) (lo hi : Option Int) : Option (List D) := match x with
  | .lst xs => some (cutD xs lo hi)
  | _ => none
theorem DenL.cut {K : PySem.W.Frag} {N : Fb} {H : Hp} {xs : List D} {vs : List V} (h : DenL K N H xs vs) (lo hi : Option Int) : DenL K N H (cutD xs lo hi) (cutV vs lo hi) := by
  unfold cutD cutV
  rw [h.length]
  exact (h.drop _).take _
@[simp] def sl3 {α : Type} (f : VE → Option D) (lo hi : VE → Option (Option Int)) (F : D → Option Int → Option Int → Option α) : VE → Option α := fun ρ => (f ρ).bind fun x => (lo ρ).bind fun l => (hi ρ).bind fun h => F x l h
theorem sl3_inv {α : Type} {f : VE → Option D} {lo hi : VE → Option (Option Int)} {F : D → Option Int → Option Int → Option α} {ρ : VE} {d : α} (h : sl3 f lo hi F ρ = some d) : ∃ x l u, f ρ = some x ∧ lo ρ = some l ∧ hi ρ = some u ∧ F x l u = some d := by
  unfold sl3 at h
  cases hf : f ρ with
  | none => rw [hf] at h; cases h
  | some x =>
    cases hl : lo ρ with
    | none => rw [hf, hl] at h; cases h
    | some l =>
      cases hu : hi ρ with
      | none => rw [hf, hl, hu] at h; cases h
      | some u => rw [hf, hl, hu] at h; exact ⟨x, l, u, rfl, rfl, rfl, h⟩
theorem ve_slice {el eu : Option Expr} {lo hi : VE → Option (Option Int)} (he : PE X e (tP X.K M H0 f)) (hl : PO X el (tO X.K M H0 lo)) (hu : PO X eu (tO X.K M H0 hi)) :
    PE X (.Subscript e (.Slice el eu none p2) pos) (tD X.K M H0 (sl3 f lo hi slD)) := (pe_slice (sl_list.or (sl_tupG.or sl_str)) he hl hu).mono fun σ H Q ⟨ρ, d, R, ex, q⟩ => by
  try dsimp only at ex q
  obtain ⟨x, l, u, e1, e2, e3, e4⟩ := sl3_inv ex
  refine ⟨ρ, x, R, e1, fun v H1 s1 hv => ⟨ρ, l, R.st s1, e2, fun H2 s2 => ⟨ρ, u, (R.st s1).st s2, e3, fun H3 s3 => ?_⟩⟩⟩
  have hv := (hv.same s2).same s3
  have s := (s1.trans s2).trans s3
  have R3 := R.st s
  unfold slD at e4
  split at e4
  · cases e4
    obtain ⟨a, vs, ea, qa, ra⟩ := hv
    exact .inl ⟨a, vs, ea, qa, fun p hp => q _ _ (s.trans (same_new hp)) (den_newL R3.nh hp (ra.cut l u))⟩
  · cases e4
    obtain ⟨a, vs, ea, qa, ra⟩ := hv.tup
    refine .inr (.inl ⟨a, vs, ea, qa, fun z => q _ _ s ?_, fun p hp => q _ _ (s.trans (same_new hp)) (den_newT hp (ra.cut l u))⟩)
    simp only [Den]
    exact ⟨a, vs, rfl, qa, z ▸ ra.cut l u⟩
  · split at e4
    · next hz => cases e4; exact .inr (.inr ⟨_, hv.str, hz, q _ _ s den_str⟩)
    · cases e4
  · cases e4
theorem j_ve_slice {el eu : Option Expr} {lo hi : VE → Option (Option Int)} (he : JE X e (tP X.K M H0 f)) (hl : JO X el (tO X.K M H0 lo)) (hu : JO X eu (tO X.K M H0 hi)) : JE X (.Subscript e (.Slice el eu none p2) pos) (tD X.K M H0 (sl3 f lo hi slD)) := ⟨ve_slice he.h hl.h hu.h⟩
theorem vf_slice {el eu : Option Expr} {lo hi : VE → Option (Option Int)} (he : PE X e (tP X.K M H0 f)) (hl : PO X el (tO X.K M H0 lo)) (hu : PO X eu (tO X.K M H0 hi)) :
    PE X (.Subscript e (.Slice el eu none p2) pos) (tF X.K M H0 (sl3 f lo hi slL)) := (pe_slice sl_list he hl hu).mono fun σ H Q ⟨ρ, d, R, ex, q⟩ => by
  try dsimp only at ex q
  obtain ⟨x, l, u, e1, e2, e3, e4⟩ := sl3_inv ex
  refine ⟨ρ, x, R, e1, fun v H1 s1 hv => ⟨ρ, l, R.st s1, e2, fun H2 s2 => ⟨ρ, u, (R.st s1).st s2, e3, fun H3 s3 => ?_⟩⟩⟩
  have hv := (hv.same s2).same s3
  unfold slL at e4
  split at e4
  · cases e4
    obtain ⟨a, vs, ea, qa, ra⟩ := hv
    exact ⟨a, vs, ea, qa, fun p hp => tF_new ((s1.trans s2).trans s3) hp (ra.cut l u) q⟩
  · cases e4
theorem j_vf_slice {el eu : Option Expr} {lo hi : VE → Option (Option Int)} (he : JE X e (tP X.K M H0 f)) (hl : JO X el (tO X.K M H0 lo)) (hu : JO X eu (tO X.K M H0 hi)) : JE X (.Subscript e (.Slice el eu none p2) pos) (tF X.K M H0 (sl3 f lo hi slL)) := ⟨vf_slice he.h hl.h hu.h⟩
end
end L2

set_option Elab.async false
set_option linter.all false
set_option maxRecDepth 100000
namespace L2
open PySem PySem.Spec PyProof.Rows

/-! ### == in depth -/
mutual
def eqD : D → D → Bool
  | .non, .non => true
  | .bl a, .bl b => a == b
  | .bl a, .int b => (if a then 1 else 0) == b
  | .int a, .bl b => a == (if b then 1 else 0)
  | .int a, .int b => a == b
  | .str a, .str b => a == b
  | .tup xs, .tup ys => eqDs xs ys
  | .lst xs, .lst ys => eqDs xs ys
  | _, _ => false
def eqDs : List D → List D → Bool
  | [], [] => true
  | x :: xs, y :: ys => eqD x y && eqDs xs ys
  | _, _ => false
end
/-- n deep at most, no types -/
@[simp] def okD : Nat → D → Bool
  | _, .non => true
  | _, .bl _ => true
  | _, .int _ => true
  | _, .str _ => true
  | n + 1, .tup xs => xs.all (okD n)
  | n + 1, .lst xs => xs.all (okD n)
  | _, _ => false
mutual
theorem eqD_refl : ∀ (n : Nat) (d : D), okD n d = true → eqD d d = true
  | _, .non, _ => by simp only [eqD]
  | _, .bl _, _ => by simp only [eqD, beq_self_eq_true]
  | _, .int _, _ => by simp only [eqD, beq_self_eq_true]
  | _, .str _, _ => by simp only [eqD, beq_self_eq_true]
  | 0, .ty _, h => by simp [okD] at h
  | _ + 1, .ty _, h => by simp [okD] at h
  | 0, .tup xs, h => by simp [okD] at h
  | 0, .lst xs, h => by simp [okD] at h
  | n + 1, .tup xs, h => by simp only [okD] at h; simp only [eqD]; exact eqDs_refl n xs h
  | n + 1, .lst xs, h => by simp only [okD] at h; simp only [eqD]; exact eqDs_refl n xs h
theorem eqDs_refl : ∀ (n : Nat) (xs : List D), xs.all (okD n) = true → eqDs xs xs = true
  | _, [], _ => by simp only [eqDs]
  | n, x :: xs, h => by
    simp only [List.all_cons, Bool.and_eq_true] at h
    simp only [eqDs, Bool.and_eq_true]
    exact ⟨eqD_refl n x h.1, eqDs_refl n xs h.2⟩
end
theorem eqDs_len : ∀ {xs ys : List D}, xs.length ≠ ys.length → eqDs xs ys = false
  | [], [], h => absurd rfl h
  | [], _ :: _, _ => by simp only [eqDs]
  | _ :: _, [], _ => by simp only [eqDs]
  | x :: xs, y :: ys, h => by
    simp only [eqDs]
    rw [eqDs_len (xs := xs) (ys := ys) (by simpa using h), Bool.and_false]
theorem eqDs_all : ∀ {xs ys : List D}, xs.length = ys.length → eqDs xs ys = (List.range xs.length).all fun j => eqD (xs.getD j .non) (ys.getD j .non)
  | [], [], _ => by simp [eqDs]
  | [], _ :: _, h => by simp at h
  | _ :: _, [], h => by simp at h
  | x :: xs, y :: ys, h => by
    have ih := eqDs_all (xs := xs) (ys := ys) (by simpa using h)
    simp only [eqDs, List.length_cons, List.range_succ_eq_map, List.all_cons, List.getD_cons_zero, List.all_map, ih]
    rfl
section
variable {X : Cx} {pins : List (Addr × Obj)} {σ : St} {H : Hp} {s : Shared}
theorem Inv.apart (I : Inv X pins σ H s) {a : Addr} {xs ys : List V} (h : SqL X.K H a xs) (h' : SqT X.K H a ys) : False := by
  obtain ⟨its, r, ⟨o, n, e, c, _⟩, _⟩ := I.list h
  obtain ⟨its', r', ⟨o', e', c', _⟩, _⟩ := I.tuple h'
  rw [e] at e'; cases e'
  rw [c] at c'
  exact absurd c' (by decide)
mutual
/-- what an address denotes is one thing -/
theorem den_inj (I : Inv X pins σ H s) {N N' : Fb} : ∀ (d d' : D) (v : V), DenP X.K N H d v → DenP X.K N' H d' v → d = d'
  | .non, d', v, h, h' => by
    have h := h.non
    cases d' with
    | non => rfl
    | bl _ => rw [h'.bl] at h; cases h
    | int _ => rw [h'.int] at h; cases h
    | str _ => rw [h'.str] at h; cases h
    | ty _ => rw [h'.ty] at h; cases h
    | tup _ => obtain ⟨_, _, e, _⟩ := h'.tup; rw [e] at h; cases h
    | lst _ => obtain ⟨_, _, e, _⟩ := h'; rw [e] at h; cases h
  | .bl _, d', v, h, h' => by
    have h := h.bl
    cases d' with
    | non => rw [h'.non] at h; cases h
    | bl _ => rw [h'.bl] at h; cases h; rfl
    | int _ => rw [h'.int] at h; cases h
    | str _ => rw [h'.str] at h; cases h
    | ty _ => rw [h'.ty] at h; cases h
    | tup _ => obtain ⟨_, _, e, _⟩ := h'.tup; rw [e] at h; cases h
    | lst _ => obtain ⟨_, _, e, _⟩ := h'; rw [e] at h; cases h
  | .int _, d', v, h, h' => by
    have h := h.int
    cases d' with
    | non => rw [h'.non] at h; cases h
    | bl _ => rw [h'.bl] at h; cases h
    | int _ => rw [h'.int] at h; cases h; rfl
    | str _ => rw [h'.str] at h; cases h
    | ty _ => rw [h'.ty] at h; cases h
    | tup _ => obtain ⟨_, _, e, _⟩ := h'.tup; rw [e] at h; cases h
    | lst _ => obtain ⟨_, _, e, _⟩ := h'; rw [e] at h; cases h
  | .str _, d', v, h, h' => by
    have h := h.str
    cases d' with
    | non => rw [h'.non] at h; cases h
    | bl _ => rw [h'.bl] at h; cases h
    | int _ => rw [h'.int] at h; cases h
    | str _ => rw [h'.str] at h; cases h; rfl
    | ty _ => rw [h'.ty] at h; cases h
    | tup _ => obtain ⟨_, _, e, _⟩ := h'.tup; rw [e] at h; cases h
    | lst _ => obtain ⟨_, _, e, _⟩ := h'; rw [e] at h; cases h
  | .ty _, d', v, h, h' => by
    have h := h.ty
    cases d' with
    | non => rw [h'.non] at h; cases h
    | bl _ => rw [h'.bl] at h; cases h
    | int _ => rw [h'.int] at h; cases h
    | str _ => rw [h'.str] at h; cases h
    | ty _ => rw [h'.ty] at h; cases h; rfl
    | tup _ => obtain ⟨_, _, e, _⟩ := h'.tup; rw [e] at h; cases h
    | lst _ => obtain ⟨_, _, e, _⟩ := h'; rw [e] at h; cases h
  | .tup xs, d', v, h, h' => by
    obtain ⟨a, vs, e, q, r⟩ := h.tup
    subst e
    cases d' with
    | non => cases h'.non
    | bl _ => cases h'.bl
    | int _ => cases h'.int
    | str _ => cases h'.str
    | ty _ => cases h'.ty
    | tup ys =>
      obtain ⟨b, ws, e, q', r'⟩ := h'.tup
      cases e
      have := I.tuple_inj q q'
      subst this
      rw [denL_inj I xs ys vs r r']
    | lst _ => obtain ⟨b, ws, e, q', _⟩ := h'; cases e; exact (I.apart q' q).elim
  | .lst xs, d', v, h, h' => by
    obtain ⟨a, vs, e, q, r⟩ := h
    subst e
    cases d' with
    | non => cases h'.non
    | bl _ => cases h'.bl
    | int _ => cases h'.int
    | str _ => cases h'.str
    | ty _ => cases h'.ty
    | tup ys => obtain ⟨b, ws, e, q', r'⟩ := h'.tup; cases e; exact (I.apart q q').elim
    | lst ys =>
      obtain ⟨b, ws, e, q', r'⟩ := h'
      cases e
      have := I.list_inj q q'
      subst this
      rw [denL_inj I xs ys vs r r']
theorem denL_inj (I : Inv X pins σ H s) {N N' : Fb} : ∀ (xs ys : List D) (vs : List V), DenL X.K N H xs vs → DenL X.K N' H ys vs → xs = ys
  | [], ys, vs, h, h' => by
    simp only [DenL] at h; subst h
    cases ys with
    | nil => rfl
    | cons y ys => simp only [DenL] at h'; obtain ⟨_, _, e, _⟩ := h'; cases e
  | x :: xs, ys, vs, h, h' => by
    simp only [DenL] at h
    obtain ⟨v, r, e, q, t⟩ := h
    subst e
    cases ys with
    | nil => simp only [DenL] at h'; cases h'
    | cons y ys =>
      simp only [DenL] at h'
      obtain ⟨v', r', e, q', t'⟩ := h'
      cases e
      rw [den_inj I x y v q.p q'.p, denL_inj I xs ys r t t']
end
open SeqAt
theorem getD_some {α : Type} {xs : List α} {j : Nat} {d e : α} (h : xs[j]? = some e) : xs.getD j d = e := by simp [List.getD_eq_getElem?_getD, h]
theorem arr_get {its : List Value} {j : Nat} {u : Value} (h1 : j < its.toArray.size) (e : its[j]? = some u) : its.toArray[j] = u := by
  obtain ⟨_, e⟩ := List.getElem?_eq_some_iff.mp e
  simpa using e
def BothAt (A : Around) (s : Shared) (u v : Value) (b : Bool) : Prop := RcAt A s u v b ∧ EqAt A s u v b ∧ RcNeAt A s u v (!b)
theorem in1_units (A : Around) : A.in1.units = A.units + 1 := rfl
theorem bothAt_D (I : Inv X pins σ H s) {N : Fb} : ∀ (n : Nat) (A : Around) (x y : D) (vx vy : V) (u v : Value), A.units + n < cLine → okD n x = true → okD n y = true → DenP X.K N H x vx → DenP X.K N H y vy → RelV vx u → RelV vy v → BothAt A s u v (eqD x y) := by
  intro n
  induction n with
  | zero =>
    intro A x y vx vy u v hu ox oy hx hy rx ry
    have hu' : A.units < cLine := by omega
    cases x with
    | non =>
      rw [hx.non] at rx; cases rx
      cases y with
      | non => rw [hy.non] at ry; cases ry; simp only [eqD]; exact ⟨RcAt.none_none, EqAt.same _, RcNeAt.none_none⟩
      | bl _ => rw [hy.bl] at ry; cases ry; simp only [eqD]; exact ⟨RcAt.none_bool _, EqAt.none_bool _, RcNeAt.none_bool _⟩
      | int _ => rw [hy.int] at ry; obtain ⟨t2, rfl⟩ := ry; simp only [eqD]; exact ⟨RcAt.none_int _ _, EqAt.none_int _ _, RcNeAt.none_int _ _⟩
      | str _ => rw [hy.str] at ry; obtain ⟨t2, rfl⟩ := ry; simp only [eqD]; exact ⟨RcAt.none_str _ _, EqAt.none_str _ _, RcNeAt.none_str _ _⟩
      | tup ys => simp [okD] at oy
      | lst ys => simp [okD] at oy
      | ty _ => simp [okD] at oy
    | bl _ =>
      rw [hx.bl] at rx; cases rx
      cases y with
      | non => rw [hy.non] at ry; cases ry; simp only [eqD]; exact ⟨RcAt.bool_none _, EqAt.bool_none _, RcNeAt.bool_none _⟩
      | bl _ => rw [hy.bl] at ry; cases ry; simp only [eqD]; exact ⟨RcAt.bool_bool _ _, EqAt.bool_bool _ _, RcNeAt.bool_bool _ _⟩
      | int _ => rw [hy.int] at ry; obtain ⟨t2, rfl⟩ := ry; simp only [eqD]; exact ⟨RcAt.bool_int _ _ _, EqAt.bool_int _ _ _, RcNeAt.bool_int _ _ _⟩
      | str _ => rw [hy.str] at ry; obtain ⟨t2, rfl⟩ := ry; simp only [eqD]; exact ⟨RcAt.bool_str _ _ _, EqAt.bool_str _ _ _, RcNeAt.bool_str _ _ _⟩
      | tup ys => simp [okD] at oy
      | lst ys => simp [okD] at oy
      | ty _ => simp [okD] at oy
    | int _ =>
      rw [hx.int] at rx; obtain ⟨t1, rfl⟩ := rx
      cases y with
      | non => rw [hy.non] at ry; cases ry; simp only [eqD]; exact ⟨RcAt.int_none _ _, EqAt.int_none _ _, RcNeAt.int_none _ _⟩
      | bl _ => rw [hy.bl] at ry; cases ry; simp only [eqD]; exact ⟨RcAt.int_bool _ _ _, EqAt.int_bool _ _ _, RcNeAt.int_bool _ _ _⟩
      | int _ => rw [hy.int] at ry; obtain ⟨t2, rfl⟩ := ry; simp only [eqD]; exact ⟨RcAt.int_int _ _ _ _, EqAt.int_int _ _ _ _, RcNeAt.int_int _ _ _ _⟩
      | str _ => rw [hy.str] at ry; obtain ⟨t2, rfl⟩ := ry; simp only [eqD]; exact ⟨RcAt.int_str _ _ _ _, EqAt.int_str _ _ _ _, RcNeAt.int_str _ _ _ _⟩
      | tup ys => simp [okD] at oy
      | lst ys => simp [okD] at oy
      | ty _ => simp [okD] at oy
    | str _ =>
      rw [hx.str] at rx; obtain ⟨t1, rfl⟩ := rx
      cases y with
      | non => rw [hy.non] at ry; cases ry; simp only [eqD]; exact ⟨RcAt.str_none _ _, EqAt.str_none _ _, RcNeAt.str_none _ _⟩
      | bl _ => rw [hy.bl] at ry; cases ry; simp only [eqD]; exact ⟨RcAt.str_bool _ _ _, EqAt.str_bool _ _ _, RcNeAt.str_bool _ _ _⟩
      | int _ => rw [hy.int] at ry; obtain ⟨t2, rfl⟩ := ry; simp only [eqD]; exact ⟨RcAt.str_int _ _ _ _, EqAt.str_int _ _ _ _, RcNeAt.str_int _ _ _ _⟩
      | str _ => rw [hy.str] at ry; obtain ⟨t2, rfl⟩ := ry; simp only [eqD]; exact ⟨RcAt.str_str _ _ _ _, EqAt.str_str _ _ _ _, RcNeAt.str_str _ _ _ _⟩
      | tup ys => simp [okD] at oy
      | lst ys => simp [okD] at oy
      | ty _ => simp [okD] at oy
    | tup xs => simp [okD] at ox
    | lst xs => simp [okD] at ox
    | ty _ => simp [okD] at ox
  | succ n ih =>
    intro A x y vx vy u v hu ox oy hx hy rx ry
    have hu' : A.units < cLine := by omega
    cases x with
    | non =>
      rw [hx.non] at rx; cases rx
      cases y with
      | non => rw [hy.non] at ry; cases ry; simp only [eqD]; exact ⟨RcAt.none_none, EqAt.same _, RcNeAt.none_none⟩
      | bl _ => rw [hy.bl] at ry; cases ry; simp only [eqD]; exact ⟨RcAt.none_bool _, EqAt.none_bool _, RcNeAt.none_bool _⟩
      | int _ => rw [hy.int] at ry; obtain ⟨t2, rfl⟩ := ry; simp only [eqD]; exact ⟨RcAt.none_int _ _, EqAt.none_int _ _, RcNeAt.none_int _ _⟩
      | str _ => rw [hy.str] at ry; obtain ⟨t2, rfl⟩ := ry; simp only [eqD]; exact ⟨RcAt.none_str _ _, EqAt.none_str _ _, RcNeAt.none_str _ _⟩
      | tup ys => obtain ⟨a2, vs2, e2, q2, d2⟩ := hy.tup; subst e2; cases ry; obtain ⟨its2, r2, p2, z2⟩ := I.tuple q2; simp only [eqD]; exact ⟨RcAt.none_tuple p2 hu', EqAt.none_tuple p2 hu', RcNeAt.none_tuple p2 hu'⟩
      | lst ys => obtain ⟨a2, vs2, e2, q2, d2⟩ := hy; subst e2; cases ry; obtain ⟨its2, r2, p2, z2⟩ := I.list q2; simp only [eqD]; exact ⟨RcAt.none_list p2.isList hu', EqAt.none_list p2.isList hu', RcNeAt.none_list p2.isList hu'⟩
      | ty _ => simp [okD] at oy
    | bl _ =>
      rw [hx.bl] at rx; cases rx
      cases y with
      | non => rw [hy.non] at ry; cases ry; simp only [eqD]; exact ⟨RcAt.bool_none _, EqAt.bool_none _, RcNeAt.bool_none _⟩
      | bl _ => rw [hy.bl] at ry; cases ry; simp only [eqD]; exact ⟨RcAt.bool_bool _ _, EqAt.bool_bool _ _, RcNeAt.bool_bool _ _⟩
      | int _ => rw [hy.int] at ry; obtain ⟨t2, rfl⟩ := ry; simp only [eqD]; exact ⟨RcAt.bool_int _ _ _, EqAt.bool_int _ _ _, RcNeAt.bool_int _ _ _⟩
      | str _ => rw [hy.str] at ry; obtain ⟨t2, rfl⟩ := ry; simp only [eqD]; exact ⟨RcAt.bool_str _ _ _, EqAt.bool_str _ _ _, RcNeAt.bool_str _ _ _⟩
      | tup ys => obtain ⟨a2, vs2, e2, q2, d2⟩ := hy.tup; subst e2; cases ry; obtain ⟨its2, r2, p2, z2⟩ := I.tuple q2; simp only [eqD]; exact ⟨RcAt.bool_tuple _ p2 hu', EqAt.bool_tuple _ p2 hu', RcNeAt.bool_tuple _ p2 hu'⟩
      | lst ys => obtain ⟨a2, vs2, e2, q2, d2⟩ := hy; subst e2; cases ry; obtain ⟨its2, r2, p2, z2⟩ := I.list q2; simp only [eqD]; exact ⟨RcAt.bool_list _ p2.isList hu', EqAt.bool_list _ p2.isList hu', RcNeAt.bool_list _ p2.isList hu'⟩
      | ty _ => simp [okD] at oy
    | int _ =>
      rw [hx.int] at rx; obtain ⟨t1, rfl⟩ := rx
      cases y with
      | non => rw [hy.non] at ry; cases ry; simp only [eqD]; exact ⟨RcAt.int_none _ _, EqAt.int_none _ _, RcNeAt.int_none _ _⟩
      | bl _ => rw [hy.bl] at ry; cases ry; simp only [eqD]; exact ⟨RcAt.int_bool _ _ _, EqAt.int_bool _ _ _, RcNeAt.int_bool _ _ _⟩
      | int _ => rw [hy.int] at ry; obtain ⟨t2, rfl⟩ := ry; simp only [eqD]; exact ⟨RcAt.int_int _ _ _ _, EqAt.int_int _ _ _ _, RcNeAt.int_int _ _ _ _⟩
      | str _ => rw [hy.str] at ry; obtain ⟨t2, rfl⟩ := ry; simp only [eqD]; exact ⟨RcAt.int_str _ _ _ _, EqAt.int_str _ _ _ _, RcNeAt.int_str _ _ _ _⟩
      | tup ys => obtain ⟨a2, vs2, e2, q2, d2⟩ := hy.tup; subst e2; cases ry; obtain ⟨its2, r2, p2, z2⟩ := I.tuple q2; simp only [eqD]; exact ⟨RcAt.int_tuple _ _ p2 hu', EqAt.int_tuple _ _ p2 hu', RcNeAt.int_tuple _ _ p2 hu'⟩
      | lst ys => obtain ⟨a2, vs2, e2, q2, d2⟩ := hy; subst e2; cases ry; obtain ⟨its2, r2, p2, z2⟩ := I.list q2; simp only [eqD]; exact ⟨RcAt.int_list _ _ p2.isList hu', EqAt.int_list _ _ p2.isList hu', RcNeAt.int_list _ _ p2.isList hu'⟩
      | ty _ => simp [okD] at oy
    | str _ =>
      rw [hx.str] at rx; obtain ⟨t1, rfl⟩ := rx
      cases y with
      | non => rw [hy.non] at ry; cases ry; simp only [eqD]; exact ⟨RcAt.str_none _ _, EqAt.str_none _ _, RcNeAt.str_none _ _⟩
      | bl _ => rw [hy.bl] at ry; cases ry; simp only [eqD]; exact ⟨RcAt.str_bool _ _ _, EqAt.str_bool _ _ _, RcNeAt.str_bool _ _ _⟩
      | int _ => rw [hy.int] at ry; obtain ⟨t2, rfl⟩ := ry; simp only [eqD]; exact ⟨RcAt.str_int _ _ _ _, EqAt.str_int _ _ _ _, RcNeAt.str_int _ _ _ _⟩
      | str _ => rw [hy.str] at ry; obtain ⟨t2, rfl⟩ := ry; simp only [eqD]; exact ⟨RcAt.str_str _ _ _ _, EqAt.str_str _ _ _ _, RcNeAt.str_str _ _ _ _⟩
      | tup ys => obtain ⟨a2, vs2, e2, q2, d2⟩ := hy.tup; subst e2; cases ry; obtain ⟨its2, r2, p2, z2⟩ := I.tuple q2; simp only [eqD]; exact ⟨RcAt.str_tuple _ _ p2 hu', EqAt.str_tuple _ _ p2 hu', RcNeAt.str_tuple _ _ p2 hu'⟩
      | lst ys => obtain ⟨a2, vs2, e2, q2, d2⟩ := hy; subst e2; cases ry; obtain ⟨its2, r2, p2, z2⟩ := I.list q2; simp only [eqD]; exact ⟨RcAt.str_list _ _ p2.isList hu', EqAt.str_list _ _ p2.isList hu', RcNeAt.str_list _ _ p2.isList hu'⟩
      | ty _ => simp [okD] at oy
    | tup xs =>
      obtain ⟨a1, vs1, e1, q1, d1⟩ := hx.tup; subst e1; cases rx; obtain ⟨its1, r1, p1, z1⟩ := I.tuple q1
      cases y with
      | non => rw [hy.non] at ry; cases ry; simp only [eqD]; exact ⟨RcAt.tuple_none p1 hu', EqAt.tuple_none p1 hu', RcNeAt.tuple_none p1 hu'⟩
      | bl _ => rw [hy.bl] at ry; cases ry; simp only [eqD]; exact ⟨RcAt.tuple_bool _ p1 hu', EqAt.tuple_bool _ p1 hu', RcNeAt.tuple_bool _ p1 hu'⟩
      | int _ => rw [hy.int] at ry; obtain ⟨t2, rfl⟩ := ry; simp only [eqD]; exact ⟨RcAt.tuple_int _ _ p1 hu', EqAt.tuple_int _ _ p1 hu', RcNeAt.tuple_int _ _ p1 hu'⟩
      | str _ => rw [hy.str] at ry; obtain ⟨t2, rfl⟩ := ry; simp only [eqD]; exact ⟨RcAt.tuple_str _ _ p1 hu', EqAt.tuple_str _ _ p1 hu', RcNeAt.tuple_str _ _ p1 hu'⟩
      | tup ys =>
        obtain ⟨a2, vs2, e2, q2, d2⟩ := hy.tup; subst e2; cases ry; obtain ⟨its2, r2, p2, z2⟩ := I.tuple q2
        simp only [okD] at ox oy
        have l1 := r1.length
        have l2 := r2.length
        have m1 := d1.length
        have m2 := d2.length
        simp only [eqD]
        have rc : RcAt A s (.ref a1) (.ref a2) (eqDs xs ys) ∧ RcNeAt A s (.ref a1) (.ref a2) (!eqDs xs ys) := by
          have each : ∀ j (h1 : j < its1.toArray.size) (h2 : j < its2.toArray.size), EqAt A.in1 s its1.toArray[j] its2.toArray[j] (eqD (xs.getD j .non) (ys.getD j .non)) := fun j h1 h2 => ?_
          · have key := RcAt.tuples (A := A) (s := s) (e := fun j => eqD (xs.getD j .non) (ys.getD j .non)) p1 p2 hu' each
            have key2 := RcNeAt.tuples (A := A) (s := s) (e := fun j => eqD (xs.getD j .non) (ys.getD j .non)) p1 p2 hu' each
            have e : ((List.range (min its1.toArray.size its2.toArray.size)).all (fun j => eqD (xs.getD j .non) (ys.getD j .non)) && its1.toArray.size == its2.toArray.size) = eqDs xs ys := by
              rw [List.size_toArray, List.size_toArray]
              by_cases hl : xs.length = ys.length
              · rw [eqDs_all hl, show its1.length = xs.length by omega, show its2.length = xs.length by omega, Nat.min_self]; simp
              · rw [eqDs_len hl, show (its1.length == its2.length) = false by simp; omega, Bool.and_false]
            rw [e] at key key2
            exact ⟨key, key2⟩
          · have h1' : j < xs.length := by rw [List.size_toArray] at h1; omega
            have h2' : j < ys.length := by rw [List.size_toArray] at h2; omega
            have g1 := List.getElem?_eq_getElem h1'
            have g2 := List.getElem?_eq_getElem h2'
            obtain ⟨w1, hw1, dw1⟩ := d1.get g1
            obtain ⟨w2, hw2, dw2⟩ := d2.get g2
            obtain ⟨u1, hu1, ru1⟩ := r1.get hw1
            obtain ⟨u2, hu2, ru2⟩ := r2.get hw2
            rw [arr_get h1 hu1, arr_get h2 hu2, getD_some g1, getD_some g2]
            exact (ih A.in1 _ _ _ _ _ _ (by rw [in1_units]; omega) (List.all_eq_true.mp ox _ (List.getElem_mem h1')) (List.all_eq_true.mp oy _ (List.getElem_mem h2')) dw1.p dw2.p ru1 ru2).2.1
        refine ⟨rc.1, ?_, rc.2⟩
        by_cases ea : a1 = a2
        · subst ea
          have := I.tuple_inj q1 q2
          subst this
          rw [denL_inj I xs ys _ d1 d2, eqDs_refl n ys oy]
          exact EqAt.same _
        · exact EqAt.of_refs ea rc.1
      | lst ys => obtain ⟨a2, vs2, e2, q2, d2⟩ := hy; subst e2; cases ry; obtain ⟨its2, r2, p2, z2⟩ := I.list q2; simp only [eqD]; exact ⟨RcAt.tuple_list p1 p2.isList hu', EqAt.tuple_list p1 p2.isList hu', RcNeAt.tuple_list p1 p2.isList hu'⟩
      | ty _ => simp [okD] at oy
    | lst xs =>
      obtain ⟨a1, vs1, e1, q1, d1⟩ := hx; subst e1; cases rx; obtain ⟨its1, r1, p1, z1⟩ := I.list q1
      cases y with
      | non => rw [hy.non] at ry; cases ry; simp only [eqD]; exact ⟨RcAt.list_none p1.isList hu', EqAt.list_none p1.isList hu', RcNeAt.list_none p1.isList hu'⟩
      | bl _ => rw [hy.bl] at ry; cases ry; simp only [eqD]; exact ⟨RcAt.list_bool _ p1.isList hu', EqAt.list_bool _ p1.isList hu', RcNeAt.list_bool _ p1.isList hu'⟩
      | int _ => rw [hy.int] at ry; obtain ⟨t2, rfl⟩ := ry; simp only [eqD]; exact ⟨RcAt.list_int _ _ p1.isList hu', EqAt.list_int _ _ p1.isList hu', RcNeAt.list_int _ _ p1.isList hu'⟩
      | str _ => rw [hy.str] at ry; obtain ⟨t2, rfl⟩ := ry; simp only [eqD]; exact ⟨RcAt.list_str _ _ p1.isList hu', EqAt.list_str _ _ p1.isList hu', RcNeAt.list_str _ _ p1.isList hu'⟩
      | tup ys => obtain ⟨a2, vs2, e2, q2, d2⟩ := hy.tup; subst e2; cases ry; obtain ⟨its2, r2, p2, z2⟩ := I.tuple q2; simp only [eqD]; exact ⟨RcAt.list_tuple p1.isList p2 hu', EqAt.list_tuple p1.isList p2 hu', RcNeAt.list_tuple p1.isList p2 hu'⟩
      | lst ys =>
        obtain ⟨a2, vs2, e2, q2, d2⟩ := hy; subst e2; cases ry; obtain ⟨its2, r2, p2, z2⟩ := I.list q2
        simp only [okD] at ox oy
        have l1 := r1.length
        have l2 := r2.length
        have m1 := d1.length
        have m2 := d2.length
        simp only [eqD]
        have rc : RcAt A s (.ref a1) (.ref a2) (eqDs xs ys) ∧ RcNeAt A s (.ref a1) (.ref a2) (!eqDs xs ys) := by
          by_cases hl : xs.length = ys.length
          · have each : ∀ j (h1 : j < its1.toArray.size) (h2 : j < its2.toArray.size), EqAt A.in1 s its1.toArray[j] its2.toArray[j] (eqD (xs.getD j .non) (ys.getD j .non)) := fun j h1 h2 => ?_
            · have key := RcAt.lists (A := A) (s := s) (e := fun j => eqD (xs.getD j .non) (ys.getD j .non)) p1.isList p2.isList (by rw [List.size_toArray, List.size_toArray]; omega) hu' each
              have key2 := RcNeAt.lists (A := A) (s := s) (e := fun j => eqD (xs.getD j .non) (ys.getD j .non)) p1.isList p2.isList (by rw [List.size_toArray, List.size_toArray]; omega) hu' each
              have e : (List.range its1.toArray.size).all (fun j => eqD (xs.getD j .non) (ys.getD j .non)) = eqDs xs ys := by
                rw [List.size_toArray, eqDs_all hl, show its1.length = xs.length by omega]
              rw [e] at key key2
              exact ⟨key, key2⟩
            · have h1' : j < xs.length := by rw [List.size_toArray] at h1; omega
              have h2' : j < ys.length := by rw [List.size_toArray] at h2; omega
              have g1 := List.getElem?_eq_getElem h1'
              have g2 := List.getElem?_eq_getElem h2'
              obtain ⟨w1, hw1, dw1⟩ := d1.get g1
              obtain ⟨w2, hw2, dw2⟩ := d2.get g2
              obtain ⟨u1, hu1, ru1⟩ := r1.get hw1
              obtain ⟨u2, hu2, ru2⟩ := r2.get hw2
              rw [arr_get h1 hu1, arr_get h2 hu2, getD_some g1, getD_some g2]
              exact (ih A.in1 _ _ _ _ _ _ (by rw [in1_units]; omega) (List.all_eq_true.mp ox _ (List.getElem_mem h1')) (List.all_eq_true.mp oy _ (List.getElem_mem h2')) dw1.p dw2.p ru1 ru2).2.1
          · rw [eqDs_len hl]
            have hne : (its1.toArray.size != its2.toArray.size) = true := by rw [List.size_toArray, List.size_toArray]; simp; omega
            exact ⟨RcAt.lists_lengths p1.isList p2.isList hne hu', RcNeAt.lists_lengths p1.isList p2.isList hne hu'⟩
        refine ⟨rc.1, ?_, rc.2⟩
        by_cases ea : a1 = a2
        · subst ea
          have := I.list_inj q1 q2
          subst this
          rw [denL_inj I xs ys _ d1 d2, eqDs_refl n ys oy]
          exact EqAt.same _
        · exact EqAt.of_refs ea rc.1
      | ty _ => simp [okD] at oy
    | ty _ => simp [okD] at ox
end
/-! x == y, x != y, x in y -/
def deep : Nat := 12
@[simp] def eqO (x y : D) : Option D := if okD deep x && okD deep y then some (.bl (eqD x y)) else none
@[simp] def neO (x y : D) : Option D := if okD deep x && okD deep y then some (.bl (!eqD x y)) else none
def rEqD (K : PySem.W.Frag) (neg : Bool) : R2 := fun x y H Q => ∃ N d1 d2, DenP K N H d1 x ∧ DenP K N H d2 y ∧ okD deep d1 = true ∧ okD deep d2 = true ∧ Q (.bl (if neg then !eqD d1 d2 else eqD d1 d2)) H
section
variable {X : Cx} {K : PySem.W.Frag} {M : Fb} {H0 : Hp} {a b : Expr} {f g : VE → Option D} {pos : Pos}
theorem op_eqD (hu : X.A.units + 64 < cLine) : OpR X (compareOp .Eq) (rEqD X.K false) := by
  intro pins s σ H x y v u Q I rx ry h
  obtain ⟨N, d1, d2, h1, h2, o1, o2, q⟩ := h
  exact (bothAt_D I deep X.A d1 d2 x y v u (by unfold deep; omega) o1 o2 h1 h2 rx ry).1 X.prog X.w X.xe _ ⟨.bl _, H, I, rfl, q⟩
theorem op_neD (hu : X.A.units + 64 < cLine) : OpR X (compareOp .NotEq) (rEqD X.K true) := by
  intro pins s σ H x y v u Q I rx ry h
  obtain ⟨N, d1, d2, h1, h2, o1, o2, q⟩ := h
  exact (bothAt_D I deep X.A d1 d2 x y v u (by unfold deep; omega) o1 o2 h1 h2 rx ry).2.2 X.prog X.w X.xe _ ⟨.bl _, H, I, rfl, q⟩
theorem r2_eq : R2D K (rEqD K false) eqO := by
  intro N H x y d1 d2 d Q nh h1 h2 e q
  unfold eqO at e
  split at e
  · next ho => rw [Bool.and_eq_true] at ho; cases e; exact ⟨N, d1, d2, h1, h2, ho.1, ho.2, q _ H (Same.refl H) den_bl⟩
  · cases e
theorem r2_ne : R2D K (rEqD K true) neO := by
  intro N H x y d1 d2 d Q nh h1 h2 e q
  unfold neO at e
  split at e
  · next ho => rw [Bool.and_eq_true] at ho; cases e; exact ⟨N, d1, d2, h1, h2, ho.1, ho.2, q _ H (Same.refl H) den_bl⟩
  · cases e
/-- in -/
def inDs (x : D) (ys : List D) : Bool := ys.any fun y => eqD y x
@[simp] def inD (neg : Bool) (x y : D) : Option D := match y with
  | .lst ys => if okD deep x && ys.all (okD deep) then some (.bl (if neg then !inDs x ys else inDs x ys)) else none
  | .tup ys => if okD deep x && ys.all (okD deep) then some (.bl (if neg then !inDs x ys else inDs x ys)) else none
  | .str z => match x with
    | .str w => some (.bl (if neg then !(!(Builtin.Str.occurrences z w 0 z.length 1).isEmpty) else !(Builtin.Str.occurrences z w 0 z.length 1).isEmpty))
    | _ => none
  | _ => none
def rInD (K : PySem.W.Frag) (neg : Bool) : R2 := fun x y H Q => ∃ N d1 ys vs p, DenP K N H d1 x ∧ y = .ref p ∧ (SqL K H p vs ∨ SqT K H p vs) ∧ DenL K N H ys vs ∧ okD deep d1 = true ∧ ys.all (okD deep) = true ∧ Q (.bl (if neg then !inDs d1 ys else inDs d1 ys)) H
open Classical in
/-- the answer for an item, read off the value -/
noncomputable def ansOf (K : PySem.W.Frag) (N : Fb) (H : Hp) (x : D) (u : Value) : Bool := decide (∃ d w, DenP K N H d w ∧ RelV w u ∧ eqD d x = true)
theorem ansOf_eq {pins : List (Addr × Obj)} {σ : St} {H : Hp} {s : Shared} (I : Inv X pins σ H s) {N : Fb} {x d : D} {w : V} {u : Value} (hd : DenP X.K N H d w) (r : RelV w u) : ansOf X.K N H x u = eqD d x := by
  classical
  unfold ansOf
  cases e : eqD d x with
  | true => exact @decide_eq_true _ (Classical.propDecidable _) ⟨d, w, hd, r, e⟩
  | false =>
    refine @decide_eq_false _ (Classical.propDecidable _) ?_
    rintro ⟨d', w', hd', r', e'⟩
    have := r'.inj r
    subst this
    have := den_inj I d' d _ hd' hd
    subst this
    rw [e] at e'; cases e'
theorem any_ans {pins : List (Addr × Obj)} {σ : St} {H : Hp} {s : Shared} (I : Inv X pins σ H s) {N : Fb} {x : D} : ∀ {ys : List D} {vs : List V} {us : List Value}, DenL X.K N H ys vs → Vals vs us → us.any (ansOf X.K N H x) = inDs x ys
  | [], _, _, h, r => by simp only [DenL] at h; subst h; cases r; rfl
  | y :: ys, _, _, h, r => by
    simp only [DenL] at h
    obtain ⟨v, t, e, hv, ht⟩ := h
    subst e
    cases r with
    | cons r1 r2 =>
      rw [List.any_cons, ansOf_eq I hv.p r1, any_ans I ht r2]
      rfl
theorem each_ans {pins : List (Addr × Obj)} {σ : St} {H : Hp} {s : Shared} (I : Inv X pins σ H s) {N : Fb} {A : Around} {x : D} {vx : V} {v : Value} (hu : A.units + deep < cLine) (ox : okD deep x = true) (hx : DenP X.K N H x vx) (rx : RelV vx v) {ys : List D} {vs : List V} {us : List Value} (h : DenL X.K N H ys vs) (r : Vals vs us) (oy : ys.all (okD deep) = true) :
    ∀ u ∈ us, SeqAt.EqAt A s u v (ansOf X.K N H x u) := by
  intro u hu'
  obtain ⟨j, hj⟩ := List.getElem?_of_mem hu'
  have hl := r.length
  have hj' : j < vs.length := by have := (List.getElem?_eq_some_iff.mp hj).1; omega
  have hv := List.getElem?_eq_getElem hj'
  obtain ⟨u', e1, r1⟩ := r.get hv
  rw [hj] at e1; cases e1
  obtain ⟨y, e2, hy⟩ := h.get' hv
  rw [ansOf_eq I hy.p r1]
  exact (bothAt_D I deep A y x _ _ _ _ hu (List.all_eq_true.mp oy y (List.mem_of_getElem? e2)) ox hy.p hx r1 rx).2.1
theorem op_inD (hu : X.A.units + 64 < cLine) : OpR X (compareOp .In) (rInD X.K false) := by
  intro pins s σ H x y v u Q I rx ry h
  obtain ⟨N, d1, ys, vs, p, h1, rfl, hq, hd, o1, o2, q⟩ := h
  cases ry
  have hu1 : X.A.in1.units + deep < cLine := by rw [in1_units]; unfold deep; omega
  rcases hq with hq | hq
  · obtain ⟨its, r, pl, hz⟩ := I.list hq
    refine SeqAt.in_listAt (ansOf X.K N H d1) pl.isList (fun w hw => each_ans I hu1 o1 h1 rx hd r o2 w (by simpa using hw)) ⟨.bl _, H, I, rfl, ?_⟩
    rw [show its.toArray.any (ansOf X.K N H d1) = its.any (ansOf X.K N H d1) by simp, any_ans I hd r]
    exact q
  · obtain ⟨its, r, pl, hz⟩ := I.tuple hq
    refine SeqAt.in_tupleAt (ansOf X.K N H d1) pl (fun w hw => each_ans I hu1 o1 h1 rx hd r o2 w (by simpa using hw)) ⟨.bl _, H, I, rfl, ?_⟩
    rw [show its.toArray.any (ansOf X.K N H d1) = its.any (ansOf X.K N H d1) by simp, any_ans I hd r]
    exact q
theorem op_ninD (hu : X.A.units + 64 < cLine) : OpR X (compareOp .NotIn) (rInD X.K true) := by
  intro pins s σ H x y v u Q I rx ry h
  obtain ⟨N, d1, ys, vs, p, h1, rfl, hq, hd, o1, o2, q⟩ := h
  cases ry
  have hu1 : X.A.in1.units + deep < cLine := by rw [in1_units]; unfold deep; omega
  rcases hq with hq | hq
  · obtain ⟨its, r, pl, hz⟩ := I.list hq
    refine SeqAt.notIn_listAt (ansOf X.K N H d1) pl.isList (fun w hw => each_ans I hu1 o1 h1 rx hd r o2 w (by simpa using hw)) ⟨.bl _, H, I, rfl, ?_⟩
    rw [show its.toArray.any (ansOf X.K N H d1) = its.any (ansOf X.K N H d1) by simp, any_ans I hd r]
    exact q
  · obtain ⟨its, r, pl, hz⟩ := I.tuple hq
    refine SeqAt.notIn_tupleAt (ansOf X.K N H d1) pl (fun w hw => each_ans I hu1 o1 h1 rx hd r o2 w (by simpa using hw)) ⟨.bl _, H, I, rfl, ?_⟩
    rw [show its.toArray.any (ansOf X.K N H d1) = its.any (ansOf X.K N H d1) by simp, any_ans I hd r]
    exact q
theorem r2_in : R2D K (fun x y H Q => rInD K false x y H Q ∨ ∃ i j, x = .str i ∧ y = .str j ∧ Q (.bl (!(Builtin.Str.occurrences j i 0 j.length 1).isEmpty)) H) (inD false) := by
  intro N H x y d1 d2 d Q nh h1 h2 e q
  unfold inD at e
  split at e
  · split at e
    · next ho => rw [Bool.and_eq_true] at ho; cases e; obtain ⟨a, vs, e1, q1, r1⟩ := h2; exact .inl ⟨N, d1, _, vs, a, h1, e1, .inl q1, r1, ho.1, ho.2, q _ H (Same.refl H) den_bl⟩
    · cases e
  · split at e
    · next ho => rw [Bool.and_eq_true] at ho; cases e; obtain ⟨a, vs, e1, q1, r1⟩ := h2.tup; exact .inl ⟨N, d1, _, vs, a, h1, e1, .inr q1, r1, ho.1, ho.2, q _ H (Same.refl H) den_bl⟩
    · cases e
  · split at e
    · cases e; exact .inr ⟨_, _, h1.str, h2.str, q _ H (Same.refl H) den_bl⟩
    · cases e
  · cases e
theorem r2_nin : R2D K (fun x y H Q => rInD K true x y H Q ∨ ∃ i j, x = .str i ∧ y = .str j ∧ Q (.bl (!(!(Builtin.Str.occurrences j i 0 j.length 1).isEmpty))) H) (inD true) := by
  intro N H x y d1 d2 d Q nh h1 h2 e q
  unfold inD at e
  split at e
  · split at e
    · next ho => rw [Bool.and_eq_true] at ho; cases e; obtain ⟨a, vs, e1, q1, r1⟩ := h2; exact .inl ⟨N, d1, _, vs, a, h1, e1, .inl q1, r1, ho.1, ho.2, q _ H (Same.refl H) den_bl⟩
    · cases e
  · split at e
    · next ho => rw [Bool.and_eq_true] at ho; cases e; obtain ⟨a, vs, e1, q1, r1⟩ := h2.tup; exact .inl ⟨N, d1, _, vs, a, h1, e1, .inr q1, r1, ho.1, ho.2, q _ H (Same.refl H) den_bl⟩
    · cases e
  · split at e
    · cases e; exact .inr ⟨_, _, h1.str, h2.str, q _ H (Same.refl H) den_bl⟩
    · cases e
  · cases e
/-! < in depth -/
@[simp] def ltDs (lt : D → D → Option Bool) : List D → List D → Option Bool
  | [], [] => some false
  | [], _ :: _ => some true
  | _ :: _, [] => some false
  | x :: xs, y :: ys => if okD deep x && okD deep y then (if eqD x y then ltDs lt xs ys else lt x y) else none
@[simp] def ltN : Nat → D → D → Option Bool
  | _, .int i, .int j => some (decide (i < j))
  | _, .str a, .str b => some (decide (a.cps.toList < b.cps.toList))
  | n + 1, .tup xs, .tup ys => ltDs (ltN n) xs ys
  | _, _, _ => none
@[simp] def ltO (x y : D) : Option D := (ltN 6 x y).map D.bl
def rLtD (K : PySem.W.Frag) : R2 := fun x y H Q => ∃ N d1 d2 b, DenP K N H d1 x ∧ DenP K N H d2 y ∧ ltN 6 d1 d2 = some b ∧ Q (.bl b) H
theorem ltAt_D {pins : List (Addr × Obj)} {σ : St} {H : Hp} {s : Shared} (I : Inv X pins σ H s) {N : Fb} : ∀ (n : Nat) (A : Around) (x y : D) (vx vy : V) (u v : Value) (b : Bool), A.units + n + deep < cLine → ltN n x y = some b → DenP X.K N H x vx → DenP X.K N H y vy → RelV vx u → RelV vy v →
    ∀ (prog : Program) (wo : World) (E Q : Value → Shared → Prop), Q (.bool b) s → wpAny (model prog wo) A (richCompare .Lt u v) Q E s := by
  intro n
  induction n with
  | zero =>
    intro A x y vx vy u v b hu h hx hy rx ry prog wo E Q q
    unfold ltN at h
    split at h
    · cases h; rw [hx.int] at rx; rw [hy.int] at ry; obtain ⟨t, rfl⟩ := rx; obtain ⟨t', rfl⟩ := ry; exact HT.rcLt_int A s _ _ _ _ prog wo E Q q
    · cases h; rw [hx.str] at rx; rw [hy.str] at ry; obtain ⟨t, rfl⟩ := rx; obtain ⟨t', rfl⟩ := ry; exact (PyProof.Rows.lt_str q : wpAny (model prog wo) A (compareOp .Lt _ _) Q E s)
    · next h0 => cases h0
    · cases h
  | succ n ih =>
    intro A x y vx vy u v b hu h hx hy rx ry prog wo E Q q
    unfold ltN at h
    split at h
    · cases h; rw [hx.int] at rx; rw [hy.int] at ry; obtain ⟨t, rfl⟩ := rx; obtain ⟨t', rfl⟩ := ry; exact HT.rcLt_int A s _ _ _ _ prog wo E Q q
    · cases h; rw [hx.str] at rx; rw [hy.str] at ry; obtain ⟨t, rfl⟩ := rx; obtain ⟨t', rfl⟩ := ry; exact (PyProof.Rows.lt_str q : wpAny (model prog wo) A (compareOp .Lt _ _) Q E s)
    · next m xs ys e0 =>
      cases e0
      obtain ⟨a1, vs1, e1, q1, d1⟩ := hx.tup
      obtain ⟨a2, vs2, e2, q2, d2⟩ := hy.tup
      subst e1 e2
      cases rx
      cases ry
      obtain ⟨its1, r1, p1, _⟩ := I.tuple q1
      obtain ⟨its2, r2, p2, _⟩ := I.tuple q2
      have lists : ∀ (xs ys : List D) (vs1 vs2 : List V) (us1 us2 : List Value), ltDs (ltN n) xs ys = some b → DenL X.K N H xs vs1 → DenL X.K N H ys vs2 → Vals vs1 us1 → Vals vs2 us2 → LtAt A.in1 s us1 us2 b := by
        intro xs
        induction xs with
        | nil =>
          intro ys vs1 vs2 us1 us2 h d1 d2 r1 r2
          simp only [DenL] at d1; subst d1; cases r1
          cases ys with
          | nil => simp only [DenL] at d2; subst d2; cases r2; cases h; exact .nn
          | cons y ys => simp only [DenL] at d2; obtain ⟨w, t, e, _, _⟩ := d2; subst e; cases r2; cases h; exact .nc
        | cons x xs ihx =>
          intro ys vs1 vs2 us1 us2 h d1 d2 r1 r2
          simp only [DenL] at d1; obtain ⟨w1, t1, e1, dw1, dt1⟩ := d1; subst e1
          cases r1 with
          | cons rw1 rt1 =>
            cases ys with
            | nil => simp only [DenL] at d2; subst d2; cases r2; cases h; exact .cn
            | cons y ys =>
              simp only [DenL] at d2; obtain ⟨w2, t2, e2, dw2, dt2⟩ := d2; subst e2
              cases r2 with
              | cons rw2 rt2 =>
                simp only [ltDs] at h
                split at h
                · next ho =>
                  rw [Bool.and_eq_true] at ho
                  have he := (bothAt_D I deep A.in1 x y _ _ _ _ (by rw [in1_units]; omega) ho.1 ho.2 dw1.p dw2.p rw1 rw2).2.1
                  split at h
                  · next e => rw [e] at he; exact .eq he (ihx ys _ _ _ _ h dt1 dt2 rt1 rt2)
                  · next e =>
                    rw [Bool.not_eq_true] at e
                    rw [e] at he
                    exact .ne he fun prog wo E Q q => ih A.in1 x y _ _ _ _ b (by rw [in1_units]; omega) h dw1.p dw2.p rw1 rw2 prog wo E Q q
                · cases h
      exact rcLt_tup p1 p2 (by simpa using lists xs ys _ _ _ _ h d1 d2 r1 r2) (by omega) q
    · cases h
theorem op_ltD (hu : X.A.units + 64 < cLine) : OpR X (compareOp .Lt) (rLtD X.K) := by
  intro pins s σ H x y v u Q I rx ry h
  obtain ⟨N, d1, d2, b, h1, h2, hb, q⟩ := h
  have fin : EP X pins σ Q (.bool b) s := ⟨.bl b, H, I, rfl, q⟩
  exact ltAt_D I 6 X.A d1 d2 x y v u b (by unfold deep; omega) hb h1 h2 rx ry X.prog X.w X.xe _ fin
theorem r2_lt : R2D K (rLtD K) ltO := by
  intro N H x y d1 d2 d Q nh h1 h2 e q
  unfold ltO at e
  cases hl : ltN 6 d1 d2 with
  | none => rw [hl] at e; cases e
  | some b => rw [hl] at e; cases e; exact ⟨N, d1, d2, b, h1, h2, hl, q _ H (Same.refl H) den_bl⟩
end
end L2

set_option Elab.async false
set_option linter.all false
set_option maxRecDepth 100000
namespace L2
open PySem PySem.Spec PyProof.Rows

section
variable {K : PySem.W.Frag} {N : Fb} {H : Hp}
theorem Paired.one' {α β : Type} {F : α → β → Prop} {x : α} {vs : List β} (h : Paired F [x] vs) : ∃ v, vs = [v] ∧ F x v := by
  cases h with
  | cons r t => cases t; exact ⟨_, rfl, r⟩
theorem Paired.two' {α β : Type} {F : α → β → Prop} {x y : α} {vs : List β} (h : Paired F [x, y] vs) : ∃ v w, vs = [v, w] ∧ F x v ∧ F y w := by
  cases h with
  | cons r t =>
    obtain ⟨w, e, q⟩ := Paired.one' t
    subst e
    exact ⟨_, w, rfl, r, q⟩

/-! ### len, list, tuple -/
@[simp] def lenD : List D → Option D
  | [.lst xs] => some (.int xs.length)
  | [.tup xs] => some (.int xs.length)
  | [.str x] => if x.length ≤ sizeLine then some (.int x.length) else none
  | _ => none
theorem rc_len : RcD K (fun xs H Q => ∃ x n, xs = [x] ∧ LenV K x H n ∧ Q (.int n) H) lenD := by
  intro N H vs ds d Q nh h e q
  unfold lenD at e
  split at e
  · cases e
    obtain ⟨v, rfl, hv⟩ := Paired.one' h
    obtain ⟨a, ws, e1, q1, r1⟩ := hv
    subst e1
    exact ⟨.ref a, _, rfl, .inl ⟨ws, q1, rfl⟩, by rw [← r1.length]; exact q _ H (Same.refl H) den_int⟩
  · cases e
    obtain ⟨v, rfl, hv⟩ := Paired.one' h
    obtain ⟨a, ws, e1, q1, r1⟩ := hv.tup
    subst e1
    exact ⟨.ref a, _, rfl, .inr ⟨ws, q1, rfl⟩, by rw [← r1.length]; exact q _ H (Same.refl H) den_int⟩
  · split at e
    · next hz =>
      cases e
      obtain ⟨v, rfl, hv⟩ := Paired.one' h
      exact ⟨v, _, rfl, by rw [hv.str]; exact ⟨hz, rfl⟩, q _ H (Same.refl H) den_int⟩
    · cases e
  · cases e
@[simp] def lstD : List D → Option (List D)
  | [.lst xs] => some xs
  | [.tup xs] => some xs
  | _ => none
theorem rc_list : RcF K (fun xs H Q => ∃ p ys, xs = [.ref p] ∧ (SqL K H p ys ∨ SqT K H p ys) ∧ ∀ l, H l = none → Q (.ref l) (upd H l (.lst ys))) lstD := by
  intro N H vs ds xs Q nh h e q
  unfold lstD at e
  split at e
  · cases e
    obtain ⟨v, rfl, hv⟩ := Paired.one' h
    obtain ⟨a, ws, e1, q1, r1⟩ := hv
    subst e1
    exact ⟨a, ws, rfl, .inl q1, fun l hl => q ws l hl r1⟩
  · cases e
    obtain ⟨v, rfl, hv⟩ := Paired.one' h
    obtain ⟨a, ws, e1, q1, r1⟩ := hv.tup
    subst e1
    exact ⟨a, ws, rfl, .inr q1, fun l hl => q ws l hl r1⟩
  · cases e
@[simp] def tupD : List D → Option D
  | [.lst xs] => some (.tup xs)
  | [.tup xs] => some (.tup xs)
  | _ => none
theorem rc_tuple : RcD K (fun xs H Q => ∃ p ys, xs = [.ref p] ∧ ((SqL K H p ys ∧ ∀ l, H l = none → Q (.ref l) (upd H l (.tup ys))) ∨ (SqT K H p ys ∧ Q (.ref p) H))) tupD := by
  intro N H vs ds d Q nh h e q
  unfold tupD at e
  split at e
  · cases e
    obtain ⟨v, rfl, hv⟩ := Paired.one' h
    obtain ⟨a, ws, e1, q1, r1⟩ := hv
    subst e1
    exact ⟨a, ws, rfl, .inl ⟨q1, fun l hl => q _ _ (same_new hl) (den_newT hl r1)⟩⟩
  · cases e
    obtain ⟨v, rfl, hv⟩ := Paired.one' h
    obtain ⟨a, ws, e1, q1, r1⟩ := hv.tup
    subst e1
    exact ⟨a, ws, rfl, .inr ⟨q1, q _ _ (Same.refl H) (by simp only [Den]; exact ⟨a, ws, rfl, q1, r1⟩)⟩⟩
  · cases e

/-! ### all, any -/
def asBs : List D → Option (List Bool)
  | [] => some []
  | .bl b :: r => (asBs r).map (b :: ·)
  | _ => none
theorem asBs_map : ∀ {xs : List D} {bs : List Bool}, asBs xs = some bs → xs = bs.map D.bl
  | [], _, e => by cases e; rfl
  | .bl b :: r, _, e => by
    simp only [asBs] at e
    cases h : asBs r with
    | none => rw [h] at e; cases e
    | some bs => rw [h] at e; cases e; rw [asBs_map h]; rfl
  | .non :: _, _, e => nomatch e
  | .int _ :: _, _, e => nomatch e
  | .str _ :: _, _, e => nomatch e
  | .ty _ :: _, _, e => nomatch e
  | .tup _ :: _, _, e => nomatch e
  | .lst _ :: _, _, e => nomatch e
theorem denL_bls : ∀ {bs : List Bool} {vs : List V}, DenL K N H (bs.map D.bl) vs → vs = bs.map V.bl
  | [], _, h => by simpa only [List.map_nil, DenL] using h
  | b :: bs, _, h => by
    simp only [List.map_cons, DenL, Den] at h
    obtain ⟨v, r, e, hv, t⟩ := h
    subst e hv
    rw [denL_bls t]; rfl
@[simp] def allD : List D → Option D
  | [.lst xs] => (asBs xs).map fun bs => .bl (bs.all id)
  | _ => none
@[simp] def anyD : List D → Option D
  | [.lst xs] => (asBs xs).map fun bs => .bl (bs.any id)
  | _ => none
theorem rc_all : RcD K (fun xs H Q => ∃ (a : Addr) (bs : List Bool), xs = [.ref a] ∧ SqL K H a (bs.map V.bl) ∧ Q (.bl (bs.all id)) H) allD := by
  intro N H vs ds d Q nh h e q
  unfold allD at e
  split at e
  · next xs =>
    cases hb : asBs xs with
    | none => rw [hb] at e; cases e
    | some bs =>
      rw [hb] at e; cases e
      obtain ⟨v, rfl, hv⟩ := Paired.one' h
      obtain ⟨a, ws, e1, q1, r1⟩ := hv
      subst e1
      rw [asBs_map hb] at r1
      rw [denL_bls r1] at q1
      exact ⟨a, bs, rfl, q1, q _ H (Same.refl H) den_bl⟩
  · cases e
theorem rc_any : RcD K (fun xs H Q => ∃ (a : Addr) (bs : List Bool), xs = [.ref a] ∧ SqL K H a (bs.map V.bl) ∧ Q (.bl (bs.any id)) H) anyD := by
  intro N H vs ds d Q nh h e q
  unfold anyD at e
  split at e
  · next xs =>
    cases hb : asBs xs with
    | none => rw [hb] at e; cases e
    | some bs =>
      rw [hb] at e; cases e
      obtain ⟨v, rfl, hv⟩ := Paired.one' h
      obtain ⟨a, ws, e1, q1, r1⟩ := hv
      subst e1
      rw [asBs_map hb] at r1
      rw [denL_bls r1] at q1
      exact ⟨a, bs, rfl, q1, q _ H (Same.refl H) den_bl⟩
  · cases e

/-! ### min, max, abs, str, int of ints -/
@[simp] def max2D : List D → Option D
  | [.int i, .int j] => some (.int (if j > i then j else i))
  | _ => none
@[simp] def min2D : List D → Option D
  | [.int i, .int j] => some (.int (if j < i then j else i))
  | _ => none
theorem rc_max2 : RcD K (fun xs H Q => ∃ i j, xs = [.int i, .int j] ∧ Q (.int (if j > i then j else i)) H) max2D := by
  intro N H vs ds d Q nh h e q
  unfold max2D at e
  split at e
  · cases e
    obtain ⟨v, w, rfl, hv, hw⟩ := Paired.two' h
    exact ⟨_, _, by rw [hv.int, hw.int], q _ H (Same.refl H) den_int⟩
  · cases e
theorem rc_min2 : RcD K (fun xs H Q => ∃ i j, xs = [.int i, .int j] ∧ Q (.int (if j < i then j else i)) H) min2D := by
  intro N H vs ds d Q nh h e q
  unfold min2D at e
  split at e
  · cases e
    obtain ⟨v, w, rfl, hv, hw⟩ := Paired.two' h
    exact ⟨_, _, by rw [hv.int, hw.int], q _ H (Same.refl H) den_int⟩
  · cases e
@[simp] def absD : List D → Option D
  | [.int i] => some (.int (if i < 0 then -i else i))
  | _ => none
theorem rc_abs : RcD K (fun xs H Q => ∃ i, xs = [.int i] ∧ Q (.int (if i < 0 then -i else i)) H) absD := by
  intro N H vs ds d Q nh h e q
  unfold absD at e
  split at e
  · cases e
    obtain ⟨v, rfl, hv⟩ := Paired.one' h
    exact ⟨_, by rw [hv.int], q _ H (Same.refl H) den_int⟩
  · cases e
@[simp] def strI : List D → Option D
  | [.int i] => if i.natAbs.log2 < 1920 then some (.str (toString i)) else none
  | _ => none
theorem rc_strI : RcD K (fun xs H Q => ∃ i, xs = [.int i] ∧ i.natAbs.log2 < 1920 ∧ Q (.str (toString i)) H) strI := by
  intro N H vs ds d Q nh h e q
  unfold strI at e
  split at e
  · split at e
    · next hz =>
      cases e
      obtain ⟨v, rfl, hv⟩ := Paired.one' h
      exact ⟨_, by rw [hv.int], hz, q _ H (Same.refl H) den_str⟩
    · cases e
  · cases e
@[simp] def intD : List D → Option D
  | [.int i] => some (.int i)
  | [.bl k] => some (.int (if k then 1 else 0))
  | _ => none
theorem rc_int : RcD K (fun xs H Q => (∃ i, xs = [.int i] ∧ Q (.int i) H) ∨ ∃ k, xs = [.bl k] ∧ Q (.int (if k then 1 else 0)) H) intD := by
  intro N H vs ds d Q nh h e q
  unfold intD at e
  split at e
  · cases e
    obtain ⟨v, rfl, hv⟩ := Paired.one' h
    exact .inl ⟨_, by rw [hv.int], q _ H (Same.refl H) den_int⟩
  · cases e
    obtain ⟨v, rfl, hv⟩ := Paired.one' h
    exact .inr ⟨_, by rw [hv.bl], q _ H (Same.refl H) den_int⟩
  · cases e

/-! ### lists of ints: sum, min, max -/
def asIs : List D → Option (List Int)
  | [] => some []
  | .int b :: r => (asIs r).map (b :: ·)
  | _ => none
theorem asIs_map : ∀ {xs : List D} {bs : List Int}, asIs xs = some bs → xs = bs.map D.int
  | [], _, e => by cases e; rfl
  | .int b :: r, _, e => by
    simp only [asIs] at e
    cases h : asIs r with
    | none => rw [h] at e; cases e
    | some bs => rw [h] at e; cases e; rw [asIs_map h]; rfl
  | .non :: _, _, e => nomatch e
  | .bl _ :: _, _, e => nomatch e
  | .str _ :: _, _, e => nomatch e
  | .ty _ :: _, _, e => nomatch e
  | .tup _ :: _, _, e => nomatch e
  | .lst _ :: _, _, e => nomatch e
theorem asIs_ints : ∀ (ns : List Int), asIs (ns.map D.int) = some ns
  | [] => rfl
  | n :: ns => by simp only [List.map_cons, asIs, asIs_ints ns]; rfl
theorem denL_ints : ∀ {bs : List Int} {vs : List V}, DenL K N H (bs.map D.int) vs → vs = bs.map V.int
  | [], _, h => by simpa only [List.map_nil, DenL] using h
  | b :: bs, _, h => by
    simp only [List.map_cons, DenL, Den] at h
    obtain ⟨v, r, e, hv, t⟩ := h
    subst e hv
    rw [denL_ints t]; rfl
end
section
variable {X : Cx}
theorem call_sumI (hc : X.calm = true) : CallR X (.builtin "sum") (fun xs H Q => ∃ (a : Addr) (ns : List Int), xs = [.ref a] ∧ SqL X.K H a (ns.map V.int) ∧ Q (.int ns.sum) H) := by
  intro pins s σ H xs us Q I r h
  obtain ⟨a, ns, rfl, hs, q⟩ := h
  obtain ⟨u, rfl, rx⟩ := vals1 r
  cases rx
  obtain ⟨its, rv, p, hz⟩ := I.list hs
  have hi : IntsAre its ns := intsAre_of rv
  obtain ⟨ys, hy⟩ := hi.allInts.items
  have hl' : s.heap.IsList a (intItems ys) := hy ▸ p.isList
  refine sum_intListG (I.ok.hd hc) hl' fun h' tk t' hk => ?_
  have e1 : ns = ys.toList.map (·.1) := by
    rw [← nums_intItems, ← hy]
    exact (show numsOf its.toArray.toList = ns from hi.numsOf).symm
  have e2 : preSum (numAt ys) ys.size = ns.sum := by
    rw [preSum_eq, List.take_of_length_le (by simp), e1]
  rw [e2]
  exact ⟨.int ns.sum, H, I.kept (t' := tk) hk, ⟨_, rfl⟩, q⟩
theorem call_minI (hc : X.calm = true) : CallR X (.builtin "min") (fun xs H Q => ∃ (a : Addr) (ns : List Int), xs = [.ref a] ∧ SqL X.K H a (ns.map V.int) ∧ 0 < ns.length ∧ ∀ m, m ∈ ns → (∀ a, a ∈ ns → m ≤ a) → Q (.int m) H) := by
  intro pins s σ H xs us Q I r h
  obtain ⟨a, ns, rfl, hs, hne, q⟩ := h
  obtain ⟨u, rfl, rx⟩ := vals1 r
  cases rx
  obtain ⟨its, rv, p, hz⟩ := I.list hs
  have hi : IntsAre its ns := intsAre_of rv
  obtain ⟨ys, e⟩ := hi.allInts.items
  have hns : ns = ys.toList.map (·.1) := by rw [← hi.numsOf, ← nums_intItems, ← e]
  have hsz : 0 < ys.size := by
    have h3 := hne; rw [hns, List.length_map, Array.length_toList] at h3; exact h3
  have hl : s.heap.IsList a (intItems ys) := e ▸ p.isList
  refine min_intList (I.ok.hd hc) hl hsz fun v h' tk hv hk => ?_
  obtain ⟨t, rfl⟩ := intItems_at hv
  obtain ⟨h1, h2⟩ := argBest_lt (numAt ys) (ys.size - 1)
  refine ⟨.int _, H, I.kept (t' := tk) hk, ⟨t, rfl⟩, q _ ?_ fun b hb => ?_⟩
  · rw [hns, numAt_eq]; exact getD_mem (by rw [List.length_map, Array.length_toList]; omega)
  · rw [hns] at hb
    obtain ⟨j, hj, rfl⟩ := mem_getD hb
    rw [List.length_map, Array.length_toList] at hj
    rw [← numAt_eq]; exact h2 j (by omega)
theorem call_maxI (hc : X.calm = true) : CallR X (.builtin "max") (fun xs H Q => ∃ (a : Addr) (ns : List Int), xs = [.ref a] ∧ SqL X.K H a (ns.map V.int) ∧ 0 < ns.length ∧ ∀ m, m ∈ ns → (∀ a, a ∈ ns → a ≤ m) → Q (.int m) H) := by
  intro pins s σ H xs us Q I r h
  obtain ⟨a, ns, rfl, hs, hne, q⟩ := h
  obtain ⟨u, rfl, rx⟩ := vals1 r
  cases rx
  obtain ⟨its, rv, p, hz⟩ := I.list hs
  have hi : IntsAre its ns := intsAre_of rv
  obtain ⟨ys, e⟩ := hi.allInts.items
  have hns : ns = ys.toList.map (·.1) := by rw [← hi.numsOf, ← nums_intItems, ← e]
  have hsz : 0 < ys.size := by
    have h3 := hne; rw [hns, List.length_map, Array.length_toList] at h3; exact h3
  have hl : s.heap.IsList a (intItems ys) := e ▸ p.isList
  refine max_intList (I.ok.hd hc) hl hsz fun v h' tk hv hk => ?_
  obtain ⟨t, rfl⟩ := intItems_at hv
  obtain ⟨h1, h2⟩ := argBest_gt (numAt ys) (ys.size - 1)
  refine ⟨.int _, H, I.kept (t' := tk) hk, ⟨t, rfl⟩, q _ ?_ fun b hb => ?_⟩
  · rw [hns, numAt_eq]; exact getD_mem (by rw [List.length_map, Array.length_toList]; omega)
  · rw [hns] at hb
    obtain ⟨j, hj, rfl⟩ := mem_getD hb
    rw [List.length_map, Array.length_toList] at hj
    rw [← numAt_eq]; exact h2 j (by omega)
end
def minL : List Int → Option Int
  | [] => none
  | x :: xs => some (xs.foldl (fun m y => if y < m then y else m) x)
def maxL : List Int → Option Int
  | [] => none
  | x :: xs => some (xs.foldl (fun m y => if y > m then y else m) x)
theorem minF_mem : ∀ (xs : List Int) (x : Int), (xs.foldl (fun m y => if y < m then y else m) x) ∈ x :: xs ∧ ∀ a ∈ x :: xs, (xs.foldl (fun m y => if y < m then y else m) x) ≤ a
  | [], x => by simp
  | y :: ys, x => by
    simp only [List.foldl_cons]
    obtain ⟨h1, h2⟩ := minF_mem ys (if y < x then y else x)
    have hle := h2 _ List.mem_cons_self
    have k1 : (if y < x then y else x) ≤ x := by split <;> omega
    have k2 : (if y < x then y else x) ≤ y := by split <;> omega
    refine ⟨?_, fun a ha => ?_⟩
    · rcases List.mem_cons.mp h1 with h | h
      · rw [h]; split <;> simp
      · exact List.mem_cons_of_mem _ (List.mem_cons_of_mem _ h)
    · rcases List.mem_cons.mp ha with rfl | ha
      · exact Int.le_trans hle k1
      · rcases List.mem_cons.mp ha with rfl | ha
        · exact Int.le_trans hle k2
        · exact h2 a (List.mem_cons_of_mem _ ha)
theorem maxF_mem : ∀ (xs : List Int) (x : Int), (xs.foldl (fun m y => if y > m then y else m) x) ∈ x :: xs ∧ ∀ a ∈ x :: xs, a ≤ (xs.foldl (fun m y => if y > m then y else m) x)
  | [], x => by simp
  | y :: ys, x => by
    simp only [List.foldl_cons]
    obtain ⟨h1, h2⟩ := maxF_mem ys (if y > x then y else x)
    have hle := h2 _ List.mem_cons_self
    have k1 : x ≤ (if y > x then y else x) := by split <;> omega
    have k2 : y ≤ (if y > x then y else x) := by split <;> omega
    refine ⟨?_, fun a ha => ?_⟩
    · rcases List.mem_cons.mp h1 with h | h
      · rw [h]; split <;> simp
      · exact List.mem_cons_of_mem _ (List.mem_cons_of_mem _ h)
    · rcases List.mem_cons.mp ha with rfl | ha
      · exact Int.le_trans k1 hle
      · rcases List.mem_cons.mp ha with rfl | ha
        · exact Int.le_trans k2 hle
        · exact h2 a (List.mem_cons_of_mem _ ha)
theorem minL_uniq {ns : List Int} {m k : Int} (h : minL ns = some k) (h1 : m ∈ ns) (h2 : ∀ a, a ∈ ns → m ≤ a) : m = k := by
  cases ns with
  | nil => cases h
  | cons x xs =>
    cases h
    obtain ⟨q1, q2⟩ := minF_mem xs x
    have := h2 _ q1
    have := q2 _ h1
    omega
theorem maxL_uniq {ns : List Int} {m k : Int} (h : maxL ns = some k) (h1 : m ∈ ns) (h2 : ∀ a, a ∈ ns → a ≤ m) : m = k := by
  cases ns with
  | nil => cases h
  | cons x xs =>
    cases h
    obtain ⟨q1, q2⟩ := maxF_mem xs x
    have := h2 _ q1
    have := q2 _ h1
    omega
section
variable {K : PySem.W.Frag}
@[simp] def sumD : List D → Option D
  | [.lst xs] => (asIs xs).map fun ns => .int ns.sum
  | _ => none
@[simp] def min1D : List D → Option D
  | [.lst xs] => ((asIs xs).bind minL).map D.int
  | _ => none
@[simp] def max1D : List D → Option D
  | [.lst xs] => ((asIs xs).bind maxL).map D.int
  | _ => none
theorem rc_sum : RcD K (fun xs H Q => ∃ (a : Addr) (ns : List Int), xs = [.ref a] ∧ SqL K H a (ns.map V.int) ∧ Q (.int ns.sum) H) sumD := by
  intro N H vs ds d Q nh h e q
  unfold sumD at e
  split at e
  · next xs =>
    cases hb : asIs xs with
    | none => rw [hb] at e; cases e
    | some bs =>
      rw [hb] at e; cases e
      obtain ⟨v, rfl, hv⟩ := Paired.one' h
      obtain ⟨a, ws, e1, q1, r1⟩ := hv
      subst e1
      rw [asIs_map hb] at r1
      rw [denL_ints r1] at q1
      exact ⟨a, bs, rfl, q1, q _ H (Same.refl H) den_int⟩
  · cases e
theorem rc_min1 : RcD K (fun xs H Q => ∃ (a : Addr) (ns : List Int), xs = [.ref a] ∧ SqL K H a (ns.map V.int) ∧ 0 < ns.length ∧ ∀ m, m ∈ ns → (∀ a, a ∈ ns → m ≤ a) → Q (.int m) H) min1D := by
  intro N H vs ds d Q nh h e q
  unfold min1D at e
  split at e
  · next xs =>
    cases hb : asIs xs with
    | none => rw [hb] at e; cases e
    | some bs =>
      rw [hb] at e
      simp only [Option.bind] at e
      cases hm : minL bs with
      | none => rw [hm] at e; cases e
      | some k =>
        rw [hm] at e; cases e
        obtain ⟨v, rfl, hv⟩ := Paired.one' h
        obtain ⟨a, ws, e1, q1, r1⟩ := hv
        subst e1
        rw [asIs_map hb] at r1
        rw [denL_ints r1] at q1
        refine ⟨a, bs, rfl, q1, ?_, fun m h1 h2 => ?_⟩
        · cases bs with
          | nil => cases hm
          | cons => simp
        · rw [minL_uniq hm h1 h2]; exact q _ H (Same.refl H) den_int
  · cases e
theorem rc_max1 : RcD K (fun xs H Q => ∃ (a : Addr) (ns : List Int), xs = [.ref a] ∧ SqL K H a (ns.map V.int) ∧ 0 < ns.length ∧ ∀ m, m ∈ ns → (∀ a, a ∈ ns → a ≤ m) → Q (.int m) H) max1D := by
  intro N H vs ds d Q nh h e q
  unfold max1D at e
  split at e
  · next xs =>
    cases hb : asIs xs with
    | none => rw [hb] at e; cases e
    | some bs =>
      rw [hb] at e
      simp only [Option.bind] at e
      cases hm : maxL bs with
      | none => rw [hm] at e; cases e
      | some k =>
        rw [hm] at e; cases e
        obtain ⟨v, rfl, hv⟩ := Paired.one' h
        obtain ⟨a, ws, e1, q1, r1⟩ := hv
        subst e1
        rw [asIs_map hb] at r1
        rw [denL_ints r1] at q1
        refine ⟨a, bs, rfl, q1, ?_, fun m h1 h2 => ?_⟩
        · cases bs with
          | nil => cases hm
          | cons => simp
        · rw [maxL_uniq hm h1 h2]; exact q _ H (Same.refl H) den_int
  · cases e
/-! ### isinstance -/
@[simp] def tyD : D → Option String
  | .non => some "NoneType"
  | .bl _ => some "bool"
  | .int _ => some "int"
  | .str _ => some "str"
  | .tup _ => some "tuple"
  | .lst _ => some "list"
  | .ty _ => none
/-- is a value of type t one of type n -/
def tyLe (t n : String) : Bool := t == n || (t == "bool" && n == "int")
def tyIn (ns : List String) : Bool := ns.all fun n => ["NoneType", "bool", "int", "str", "tuple", "list"].contains n
end
def tyNames : List String := ["NoneType", "bool", "int", "str", "tuple", "list"]
theorem kit_all (K : PySem.W.Frag) : ∀ t ∈ tyNames, ∀ n ∈ tyNames, PySem.W.kitOne K (.type t) (.type n) = some (tyLe t n) := by
  intro t ht n hn
  simp only [tyNames, List.mem_cons, List.not_mem_nil, or_false] at ht hn
  rcases ht with rfl | rfl | rfl | rfl | rfl | rfl <;> rcases hn with rfl | rfl | rfl | rfl | rfl | rfl <;> with_unfolding_all rfl
theorem kit_any (K : PySem.W.Frag) {t : String} (ht : t ∈ tyNames) : ∀ (ns : List String), (∀ n ∈ ns, n ∈ tyNames) → PySem.W.kitAny K (.type t) (ns.map Value.type) = some (ns.any fun n => tyLe t n)
  | [], _ => rfl
  | n :: ns, h => by
    have h1 := kit_all K t ht n (h n List.mem_cons_self)
    have h2 := kit_any K ht ns fun m hm => h m (List.mem_cons_of_mem _ hm)
    simp only [List.map_cons, PySem.W.kitAny, h1, h2, List.any_cons]
    cases tyLe t n <;> rfl
theorem tyD_mem {d : D} {t : String} (h : tyD d = some t) : t ∈ tyNames := by
  cases d <;> simp [tyD] at h <;> subst h <;> simp [tyNames]
section
variable {X : Cx} {K : PySem.W.Frag}
theorem kitx_D {pins : List (Addr × Obj)} {σ : St} {H : Hp} {s : Shared} (I : Inv X pins σ H s) {N : Fb} {d : D} {x : V} {u : Value} {t : String} (hx : DenP X.K N H d x) (rx : RelV x u) (ht : tyD d = some t) :
    ∃ HP : Heap → Prop, PySem.W.KitX X.K u (.type t) HP ∧ HP s.heap ∧ u ≠ .builtin "__main__.__loader__#opaque" := by
  cases d with
  | non => cases ht; rw [hx.non] at rx; cases rx; exact ⟨_, PySem.W.kitx_none, trivial, fun z => nomatch z⟩
  | bl b => cases ht; rw [hx.bl] at rx; cases rx; exact ⟨_, PySem.W.kitx_bool, trivial, fun z => nomatch z⟩
  | int b => cases ht; rw [hx.int] at rx; obtain ⟨t, rfl⟩ := rx; exact ⟨_, PySem.W.kitx_int, trivial, fun z => nomatch z⟩
  | str b => cases ht; rw [hx.str] at rx; obtain ⟨t, rfl⟩ := rx; exact ⟨_, PySem.W.kitx_str, trivial, fun z => nomatch z⟩
  | ty n => cases ht
  | tup xs =>
    cases ht
    obtain ⟨a, vs, e, q, r⟩ := hx.tup
    subst e; cases rx
    obtain ⟨its, _, ⟨o, h1, h2, _⟩, _⟩ := I.tuple q
    exact ⟨_, PySem.W.kitx_tuple, ⟨o, h1, h2⟩, fun z => nomatch z⟩
  | lst xs =>
    cases ht
    obtain ⟨a, vs, e, q, r⟩ := hx
    subst e; cases rx
    obtain ⟨its, _, ⟨o, n, h1, h2, _⟩, _⟩ := I.list q
    exact ⟨_, PySem.W.kitx_list, ⟨o, h1, h2⟩, fun z => nomatch z⟩
/-- isinstance with one of the built-in types, with a tuple of them -/
@[simp] def tysOf : D → Option (List String)
  | .ty n => some [n]
  | .tup xs => tysL xs
  | _ => none
where tysL : List D → Option (List String)
  | [] => some []
  | .ty n :: r => (tysL r).map (n :: ·)
  | _ => none
theorem tysL_map : ∀ {xs : List D} {ns : List String}, tysOf.tysL xs = some ns → xs = ns.map D.ty
  | [], _, e => by cases e; rfl
  | .ty b :: r, _, e => by
    simp only [tysOf.tysL] at e
    cases h : tysOf.tysL r with
    | none => rw [h] at e; cases e
    | some bs => rw [h] at e; cases e; rw [tysL_map h]; rfl
  | .non :: _, _, e => nomatch e
  | .bl _ :: _, _, e => nomatch e
  | .int _ :: _, _, e => nomatch e
  | .str _ :: _, _, e => nomatch e
  | .tup _ :: _, _, e => nomatch e
  | .lst _ :: _, _, e => nomatch e
@[simp] def isD : List D → Option D
  | [x, c] => (tysOf c).bind fun ns => if (∀ n ∈ ns, n ∈ tyNames) then (tyD x).map fun t => .bl (ns.any fun n => tyLe t n) else none
  | _ => none
def rIsD (K : PySem.W.Frag) : List V → Hp → VK → Prop := fun vs H Q => ∃ N d c x y ns t, vs = [x, y] ∧ DenP K N H d x ∧ DenP K N H c y ∧ tysOf c = some ns ∧ (∀ n ∈ ns, n ∈ tyNames) ∧ tyD d = some t ∧ Q (.bl (ns.any fun n => tyLe t n)) H
theorem denL_tys {N : Fb} {H : Hp} : ∀ {ns : List String} {vs : List V}, DenL K N H (ns.map D.ty) vs → vs = ns.map V.ty
  | [], _, h => by simpa only [List.map_nil, DenL] using h
  | b :: bs, _, h => by
    simp only [List.map_cons, DenL, Den] at h
    obtain ⟨v, r, e, hv, t⟩ := h
    subst e hv
    rw [denL_tys t]; rfl
theorem vals_tys : ∀ {ns : List String} {us : List Value}, Vals (ns.map V.ty) us → us = ns.map Value.type
  | [], _, r => by cases r; rfl
  | n :: ns, _, r => by
    cases r with
    | cons r1 r2 => cases r1; rw [vals_tys r2]; rfl
theorem call_isD : CallR X (.builtin "isinstance") (rIsD X.K) := by
  intro pins s σ H xs us Q I r h
  obtain ⟨N, d, c, x, y, ns, t, rfl, hx, hy, hns, hin, ht, q⟩ := h
  obtain ⟨u, w', rfl, rx, ry⟩ := vals2 r
  obtain ⟨HP, Z, p, hne⟩ := kitx_D I hx rx ht
  cases c with
  | ty n =>
    cases hns
    rw [hy.ty] at ry; cases ry
    refine PySem.W.kia_one Z I.kIn p (kit_all X.K t (tyD_mem ht) n (hin n (by simp))) hne fun tk => ⟨.bl _, H, I.tok tk, rfl, ?_⟩
    simpa using q
  | tup xs =>
    have e := tysL_map hns
    subst e
    obtain ⟨a, vs, e, sq, dl⟩ := hy.tup
    subst e; cases ry
    obtain ⟨its, rv, ⟨⟨cls, dd, data, sl⟩, h1, h2, n, h3⟩, _⟩ := I.tuple sq
    simp only at h2 h3
    subst h2 h3
    have e2 := denL_tys dl
    subst e2
    have e3 := vals_tys rv
    subst e3
    exact PySem.W.kia_tup Z I.kIn p h1 (kit_any X.K (tyD_mem ht) ns hin) hne fun tk => ⟨.bl _, H, I.tok tk, rfl, q⟩
  | non => cases hns
  | bl _ => cases hns
  | int _ => cases hns
  | str _ => cases hns
  | lst _ => cases hns
theorem rc_is : RcD K (rIsD K) isD := by
  intro N H vs ds d Q nh h e q
  unfold isD at e
  split at e
  · next x c =>
    cases hc : tysOf c with
    | none => rw [hc] at e; cases e
    | some ns =>
      rw [hc] at e
      simp only [Option.bind] at e
      split at e
      · next hin =>
        cases ht : tyD x with
        | none => rw [ht] at e; cases e
        | some t =>
          rw [ht] at e; cases e
          obtain ⟨v, w, rfl, hv, hw⟩ := Paired.two' h
          exact ⟨N, x, c, v, w, ns, t, rfl, hv, hw, hc, hin, ht, q _ H (Same.refl H) den_bl⟩
      · cases e
  · cases e
/-- the name of a built-in type, as a value -/
theorem ve_tyn {M : Fb} {H0 : Hp} {x : Str} {n : String} {pos : Pos} (hg : Gl X x) (hm : X.mg x = none) (hv : bootBuiltins x = some (.type n)) (hn : x ≠ "__name__" := by decide) (hd : (x == ("__debug__" : Str)) = false := by decide) : PE X (.Name x pos) (tD K M H0 fun _ => some (.ty n)) :=
  ve_c (pe_bltn hg hm hv (v := .ty n) rfl hn hd) fun _ _ => by simp only [Den]
theorem j_ve_tyn {M : Fb} {H0 : Hp} {x : Str} {n : String} {pos : Pos} (hg : Gl X x) (hm : X.mg x = none) (hv : bootBuiltins x = some (.type n)) (hn : x ≠ "__name__" := by decide) (hd : (x == ("__debug__" : Str)) = false := by decide) : JE X (.Name x pos) (tD K M H0 fun _ => some (.ty n)) := ⟨ve_tyn hg hm hv hn hd⟩
/-- a constant of the module -/
theorem ve_glob {M : Fb} {H0 : Hp} {x : Str} {v : V} {d : D} {pos : Pos} (hg : Gl X x) (h : ∃ u, X.mg x = some u ∧ RelV v u) (hd : ∀ N H, Den K N H d v) (hdb : (x == ("__debug__" : Str)) = false := by decide) : PE X (.Name x pos) (tD K M H0 fun _ => some d) := by
  obtain ⟨u, hm, r⟩ := h
  exact ve_c (pe_glob hg hm r hdb) hd
theorem j_ve_glob {M : Fb} {H0 : Hp} {x : Str} {v : V} {d : D} {pos : Pos} (hg : Gl X x) (h : ∃ u, X.mg x = some u ∧ RelV v u) (hd : ∀ N H, Den K N H d v) (hdb : (x == ("__debug__" : Str)) = false := by decide) : JE X (.Name x pos) (tD K M H0 fun _ => some d) := ⟨ve_glob hg h hd hdb⟩
end
end L2

set_option Elab.async false
set_option linter.all false
set_option maxRecDepth 100000
namespace L2
open PySem PySem.Spec PyProof.Rows
section
variable {X : Cx} {K : PySem.W.Frag} {M : Fb} {H0 : Hp} {a b c e tg iter : Expr} {es : List Expr} {f g h : VE → Option D} {fa : VE → Option (List Sl)} {pos : Pos}

/-! ### short forms of the rules for names -/
theorem vv (i : Nat) {x : Str} (hN : X.N[i]? = some x := by rfl) (hv : Vis X.env.scope x := by first | exact Or.inl rfl | exact Or.inr (Or.inl rfl) | exact Or.inr (Or.inr rfl)) (hd : (x == ("__debug__" : Str)) = false := by decide) (hcd : (x == ("__classdict__" : Str)) = false := by decide) :
    PE X (.Name x pos) (tD K M H0 fun ρ => rdV ρ i) := ve_var hN hv hd hcd
theorem j_vv (i : Nat) {x : Str} (hN : X.N[i]? = some x := by rfl) (hv : Vis X.env.scope x := by first | exact Or.inl rfl | exact Or.inr (Or.inl rfl) | exact Or.inr (Or.inr rfl)) (hd : (x == ("__debug__" : Str)) = false := by decide) (hcd : (x == ("__classdict__" : Str)) = false := by decide) : JE X (.Name x pos) (tD K M H0 fun ρ => rdV ρ i) := ⟨vv i hN hv hd hcd⟩
theorem vp (i : Nat) {x : Str} (hN : X.N[i]? = some x := by rfl) (hv : Vis X.env.scope x := by first | exact Or.inl rfl | exact Or.inr (Or.inl rfl) | exact Or.inr (Or.inr rfl)) (hd : (x == ("__debug__" : Str)) = false := by decide) (hcd : (x == ("__classdict__" : Str)) = false := by decide) :
    PE X (.Name x pos) (tP K M H0 fun ρ => rdP ρ i) := vp_var hN hv hd hcd
theorem j_vp (i : Nat) {x : Str} (hN : X.N[i]? = some x := by rfl) (hv : Vis X.env.scope x := by first | exact Or.inl rfl | exact Or.inr (Or.inl rfl) | exact Or.inr (Or.inr rfl)) (hd : (x == ("__debug__" : Str)) = false := by decide) (hcd : (x == ("__classdict__" : Str)) = false := by decide) : JE X (.Name x pos) (tP K M H0 fun ρ => rdP ρ i) := ⟨vp i hN hv hd hcd⟩
theorem vq (i : Nat) {x : Str} (hN : X.N[i]? = some x := by rfl) (hv : Vis X.env.scope x := by first | exact Or.inl rfl | exact Or.inr (Or.inl rfl) | exact Or.inr (Or.inr rfl)) (hd : (x == ("__debug__" : Str)) = false := by decide) (hcd : (x == ("__classdict__" : Str)) = false := by decide) :
    PE X (.Name x pos) (tQ K M H0 fun ρ => rdQ ρ i) := vq_var hN hv hd hcd
theorem j_vq (i : Nat) {x : Str} (hN : X.N[i]? = some x := by rfl) (hv : Vis X.env.scope x := by first | exact Or.inl rfl | exact Or.inr (Or.inl rfl) | exact Or.inr (Or.inr rfl)) (hd : (x == ("__debug__" : Str)) = false := by decide) (hcd : (x == ("__classdict__" : Str)) = false := by decide) : JE X (.Name x pos) (tQ K M H0 fun ρ => rdQ ρ i) := ⟨vq i hN hv hd hcd⟩
theorem va (i : Nat) {x : Str} (hN : X.N[i]? = some x := by rfl) (hv : Vis X.env.scope x := by first | exact Or.inl rfl | exact Or.inr (Or.inl rfl) | exact Or.inr (Or.inr rfl)) (hd : (x == ("__debug__" : Str)) = false := by decide) (hcd : (x == ("__classdict__" : Str)) = false := by decide) :
    PE X (.Name x pos) (tS1 K M H0 fun ρ => rdA ρ i) := va_var hN hv hd hcd
theorem j_va (i : Nat) {x : Str} (hN : X.N[i]? = some x := by rfl) (hv : Vis X.env.scope x := by first | exact Or.inl rfl | exact Or.inr (Or.inl rfl) | exact Or.inr (Or.inr rfl)) (hd : (x == ("__debug__" : Str)) = false := by decide) (hcd : (x == ("__classdict__" : Str)) = false := by decide) : JE X (.Name x pos) (tS1 K M H0 fun ρ => rdA ρ i) := ⟨va i hN hv hd hcd⟩
theorem vret (i : Nat) {x : Str} {vpos : Pos} (hN : X.N[i]? = some x := by rfl) (hv : Vis X.env.scope x := by first | exact Or.inl rfl | exact Or.inr (Or.inl rfl) | exact Or.inr (Or.inr rfl)) (hd : (x == ("__debug__" : Str)) = false := by decide) (hcd : (x == ("__classdict__" : Str)) = false := by decide) :
    PS X (.Return (some (.Name x vpos)) pos) (tS K M H0 fun ρ => retF (rdO ρ i)) := vs_retO hN hv hd hcd

theorem j_vret (i : Nat) {x : Str} {vpos : Pos} (hN : X.N[i]? = some x := by rfl) (hv : Vis X.env.scope x := by first | exact Or.inl rfl | exact Or.inr (Or.inl rfl) | exact Or.inr (Or.inr rfl)) (hd : (x == ("__debug__" : Str)) = false := by decide) (hcd : (x == ("__classdict__" : Str)) = false := by decide) : JS X (.Return (some (.Name x vpos)) pos) (tS K M H0 fun ρ => retF (rdO ρ i)) := ⟨vret i hN hv hd hcd⟩
/-! ### comparisons -/
theorem vc_eq (hu : X.A.units + 64 < cLine) (ha : PE X a (tP X.K M H0 f)) (hb : PE X b (tP X.K M H0 g)) : PE X (.Compare a [.Eq] [b] pos) (tD X.K M H0 (bin2 eqO f g)) := ve_cmp (op_eqD hu) r2_eq ha hb (nobehind _ (by decide) (by decide))
theorem j_vc_eq (hu : X.A.units + 64 < cLine) (ha : JE X a (tP X.K M H0 f)) (hb : JE X b (tP X.K M H0 g)) : JE X (.Compare a [.Eq] [b] pos) (tD X.K M H0 (bin2 eqO f g)) := ⟨vc_eq hu ha.h hb.h⟩
theorem vc_ne (hu : X.A.units + 64 < cLine) (ha : PE X a (tP X.K M H0 f)) (hb : PE X b (tP X.K M H0 g)) : PE X (.Compare a [.NotEq] [b] pos) (tD X.K M H0 (bin2 neO f g)) := ve_cmp (op_neD hu) r2_ne ha hb (nobehind _ (by decide) (by decide))
theorem j_vc_ne (hu : X.A.units + 64 < cLine) (ha : JE X a (tP X.K M H0 f)) (hb : JE X b (tP X.K M H0 g)) : JE X (.Compare a [.NotEq] [b] pos) (tD X.K M H0 (bin2 neO f g)) := ⟨vc_ne hu ha.h hb.h⟩
theorem vc_lt (hu : X.A.units + 64 < cLine) (ha : PE X a (tP X.K M H0 f)) (hb : PE X b (tP X.K M H0 g)) : PE X (.Compare a [.Lt] [b] pos) (tD X.K M H0 (bin2 ltO f g)) := ve_cmp (op_ltD hu) r2_lt ha hb (nobehind _ (by decide) (by decide))
theorem j_vc_lt (hu : X.A.units + 64 < cLine) (ha : JE X a (tP X.K M H0 f)) (hb : JE X b (tP X.K M H0 g)) : JE X (.Compare a [.Lt] [b] pos) (tD X.K M H0 (bin2 ltO f g)) := ⟨vc_lt hu ha.h hb.h⟩
theorem vc_le (hu : X.A.units + 64 < cLine) (ha : PE X a (tP X.K M H0 f)) (hb : PE X b (tP X.K M H0 g)) : PE X (.Compare a [.LtE] [b] pos) (tD X.K M H0 (bin2 leD f g)) := ve_cmp op_le (r2_b0 _) ha hb (nobehind _ (by decide) (by decide))
theorem j_vc_le (hu : X.A.units + 64 < cLine) (ha : JE X a (tP X.K M H0 f)) (hb : JE X b (tP X.K M H0 g)) : JE X (.Compare a [.LtE] [b] pos) (tD X.K M H0 (bin2 leD f g)) := ⟨vc_le hu ha.h hb.h⟩
theorem vc_gt (hu : X.A.units + 64 < cLine) (ha : PE X a (tP X.K M H0 f)) (hb : PE X b (tP X.K M H0 g)) : PE X (.Compare a [.Gt] [b] pos) (tD X.K M H0 (bin2 gtD f g)) := ve_cmp op_gt (r2_b0 _) ha hb (nobehind _ (by decide) (by decide))
theorem j_vc_gt (hu : X.A.units + 64 < cLine) (ha : JE X a (tP X.K M H0 f)) (hb : JE X b (tP X.K M H0 g)) : JE X (.Compare a [.Gt] [b] pos) (tD X.K M H0 (bin2 gtD f g)) := ⟨vc_gt hu ha.h hb.h⟩
theorem vc_ge (hu : X.A.units + 64 < cLine) (ha : PE X a (tP X.K M H0 f)) (hb : PE X b (tP X.K M H0 g)) : PE X (.Compare a [.GtE] [b] pos) (tD X.K M H0 (bin2 geD f g)) := ve_cmp op_ge (r2_b0 _) ha hb (nobehind _ (by decide) (by decide))
theorem j_vc_ge (hu : X.A.units + 64 < cLine) (ha : JE X a (tP X.K M H0 f)) (hb : JE X b (tP X.K M H0 g)) : JE X (.Compare a [.GtE] [b] pos) (tD X.K M H0 (bin2 geD f g)) := ⟨vc_ge hu ha.h hb.h⟩
theorem vc_in (hu : X.A.units + 64 < cLine) (ha : PE X a (tP X.K M H0 f)) (hb : PE X b (tP X.K M H0 g)) (hm : behindInMarks .In b = false := by with_unfolding_all rfl) : PE X (.Compare a [.In] [b] pos) (tD X.K M H0 (bin2 (inD false) f g)) := ve_cmp ((op_inD hu).or op_in_str) r2_in ha hb hm
theorem j_vc_in (hu : X.A.units + 64 < cLine) (ha : JE X a (tP X.K M H0 f)) (hb : JE X b (tP X.K M H0 g)) (hm : behindInMarks .In b = false := by with_unfolding_all rfl) : JE X (.Compare a [.In] [b] pos) (tD X.K M H0 (bin2 (inD false) f g)) := ⟨vc_in hu ha.h hb.h hm⟩
theorem vc_nin (hu : X.A.units + 64 < cLine) (ha : PE X a (tP X.K M H0 f)) (hb : PE X b (tP X.K M H0 g)) (hm : behindInMarks .NotIn b = false := by with_unfolding_all rfl) : PE X (.Compare a [.NotIn] [b] pos) (tD X.K M H0 (bin2 (inD true) f g)) := ve_cmp ((op_ninD hu).or op_notin_str) r2_nin ha hb hm
theorem j_vc_nin (hu : X.A.units + 64 < cLine) (ha : JE X a (tP X.K M H0 f)) (hb : JE X b (tP X.K M H0 g)) (hm : behindInMarks .NotIn b = false := by with_unfolding_all rfl) : JE X (.Compare a [.NotIn] [b] pos) (tD X.K M H0 (bin2 (inD true) f g)) := ⟨vc_nin hu ha.h hb.h hm⟩
/-- as tests -/
theorem vtc_eq (hu : X.A.units + 64 < cLine) (ha : PE X a (tP X.K M H0 f)) (hb : PE X b (tP X.K M H0 g)) : PT X (.Compare a [.Eq] [b] pos) (tB' X.K M H0 fun ρ => asB (bin2 eqO f g ρ)) := vt_cmp (op_eqD hu) r2_eq ha hb (nobehind _ (by decide) (by decide))
theorem j_vtc_eq (hu : X.A.units + 64 < cLine) (ha : JE X a (tP X.K M H0 f)) (hb : JE X b (tP X.K M H0 g)) : JT X (.Compare a [.Eq] [b] pos) (tB' X.K M H0 fun ρ => asB (bin2 eqO f g ρ)) := ⟨vtc_eq hu ha.h hb.h⟩
theorem vtc_ne (hu : X.A.units + 64 < cLine) (ha : PE X a (tP X.K M H0 f)) (hb : PE X b (tP X.K M H0 g)) : PT X (.Compare a [.NotEq] [b] pos) (tB' X.K M H0 fun ρ => asB (bin2 neO f g ρ)) := vt_cmp (op_neD hu) r2_ne ha hb (nobehind _ (by decide) (by decide))
theorem j_vtc_ne (hu : X.A.units + 64 < cLine) (ha : JE X a (tP X.K M H0 f)) (hb : JE X b (tP X.K M H0 g)) : JT X (.Compare a [.NotEq] [b] pos) (tB' X.K M H0 fun ρ => asB (bin2 neO f g ρ)) := ⟨vtc_ne hu ha.h hb.h⟩
theorem vtc_lt (hu : X.A.units + 64 < cLine) (ha : PE X a (tP X.K M H0 f)) (hb : PE X b (tP X.K M H0 g)) : PT X (.Compare a [.Lt] [b] pos) (tB' X.K M H0 fun ρ => asB (bin2 ltO f g ρ)) := vt_cmp (op_ltD hu) r2_lt ha hb (nobehind _ (by decide) (by decide))
theorem j_vtc_lt (hu : X.A.units + 64 < cLine) (ha : JE X a (tP X.K M H0 f)) (hb : JE X b (tP X.K M H0 g)) : JT X (.Compare a [.Lt] [b] pos) (tB' X.K M H0 fun ρ => asB (bin2 ltO f g ρ)) := ⟨vtc_lt hu ha.h hb.h⟩
theorem vtc_le (hu : X.A.units + 64 < cLine) (ha : PE X a (tP X.K M H0 f)) (hb : PE X b (tP X.K M H0 g)) : PT X (.Compare a [.LtE] [b] pos) (tB' X.K M H0 fun ρ => asB (bin2 leD f g ρ)) := vt_cmp op_le (r2_b0 _) ha hb (nobehind _ (by decide) (by decide))
theorem j_vtc_le (hu : X.A.units + 64 < cLine) (ha : JE X a (tP X.K M H0 f)) (hb : JE X b (tP X.K M H0 g)) : JT X (.Compare a [.LtE] [b] pos) (tB' X.K M H0 fun ρ => asB (bin2 leD f g ρ)) := ⟨vtc_le hu ha.h hb.h⟩
theorem vtc_gt (hu : X.A.units + 64 < cLine) (ha : PE X a (tP X.K M H0 f)) (hb : PE X b (tP X.K M H0 g)) : PT X (.Compare a [.Gt] [b] pos) (tB' X.K M H0 fun ρ => asB (bin2 gtD f g ρ)) := vt_cmp op_gt (r2_b0 _) ha hb (nobehind _ (by decide) (by decide))
theorem j_vtc_gt (hu : X.A.units + 64 < cLine) (ha : JE X a (tP X.K M H0 f)) (hb : JE X b (tP X.K M H0 g)) : JT X (.Compare a [.Gt] [b] pos) (tB' X.K M H0 fun ρ => asB (bin2 gtD f g ρ)) := ⟨vtc_gt hu ha.h hb.h⟩
theorem vtc_ge (hu : X.A.units + 64 < cLine) (ha : PE X a (tP X.K M H0 f)) (hb : PE X b (tP X.K M H0 g)) : PT X (.Compare a [.GtE] [b] pos) (tB' X.K M H0 fun ρ => asB (bin2 geD f g ρ)) := vt_cmp op_ge (r2_b0 _) ha hb (nobehind _ (by decide) (by decide))
theorem j_vtc_ge (hu : X.A.units + 64 < cLine) (ha : JE X a (tP X.K M H0 f)) (hb : JE X b (tP X.K M H0 g)) : JT X (.Compare a [.GtE] [b] pos) (tB' X.K M H0 fun ρ => asB (bin2 geD f g ρ)) := ⟨vtc_ge hu ha.h hb.h⟩
theorem vtc_in (hu : X.A.units + 64 < cLine) (ha : PE X a (tP X.K M H0 f)) (hb : PE X b (tP X.K M H0 g)) (hm : behindInMarks .In b = false := by with_unfolding_all rfl) : PT X (.Compare a [.In] [b] pos) (tB' X.K M H0 fun ρ => asB (bin2 (inD false) f g ρ)) := vt_cmp ((op_inD hu).or op_in_str) r2_in ha hb hm
theorem j_vtc_in (hu : X.A.units + 64 < cLine) (ha : JE X a (tP X.K M H0 f)) (hb : JE X b (tP X.K M H0 g)) (hm : behindInMarks .In b = false := by with_unfolding_all rfl) : JT X (.Compare a [.In] [b] pos) (tB' X.K M H0 fun ρ => asB (bin2 (inD false) f g ρ)) := ⟨vtc_in hu ha.h hb.h hm⟩
theorem vtc_nin (hu : X.A.units + 64 < cLine) (ha : PE X a (tP X.K M H0 f)) (hb : PE X b (tP X.K M H0 g)) (hm : behindInMarks .NotIn b = false := by with_unfolding_all rfl) : PT X (.Compare a [.NotIn] [b] pos) (tB' X.K M H0 fun ρ => asB (bin2 (inD true) f g ρ)) := vt_cmp ((op_ninD hu).or op_notin_str) r2_nin ha hb hm
theorem j_vtc_nin (hu : X.A.units + 64 < cLine) (ha : JE X a (tP X.K M H0 f)) (hb : JE X b (tP X.K M H0 g)) (hm : behindInMarks .NotIn b = false := by with_unfolding_all rfl) : JT X (.Compare a [.NotIn] [b] pos) (tB' X.K M H0 fun ρ => asB (bin2 (inD true) f g ρ)) := ⟨vtc_nin hu ha.h hb.h hm⟩
/-! a ≤ b ≤ c and the like -/
@[simp] def chainO (F F' : D → D → Option D) (f g h : VE → Option D) : VE → Option D := fun ρ => (f ρ).bind fun x => (g ρ).bind fun y => match F x y with
  | some (.bl true) => (h ρ).bind fun z => F' y z
  | some (.bl false) => some (.bl false)
  | _ => none
theorem tChain_D {r r' : R2} {F F' : D → D → Option D} (hr : R2D K r F) (hr' : R2D K r' F') {σ : St} {H : Hp} {Q : VK} (q : tD K M H0 (chainO F F' f g h) σ H Q) : tChain r r' (tP K M H0 f) (tP K M H0 g) (tP K M H0 h) σ H Q := by
  obtain ⟨ρ, d, R, e, q⟩ := q
  unfold chainO at e
  cases hf : f ρ with
  | none => rw [hf] at e; cases e
  | some x =>
    cases hg : g ρ with
    | none => rw [hf, hg] at e; cases e
    | some y =>
      rw [hf, hg] at e
      simp only [Option.bind] at e
      refine ⟨ρ, x, R, hf, fun v H1 s1 h1 => ⟨ρ, y, R.st s1, hg, fun u H2 s2 h2 => ?_⟩⟩
      have R2 := (R.st s1).st s2
      split at e
      · next hF =>
        cases hh : h ρ with
        | none => rw [hh] at e; cases e
        | some z =>
          rw [hh] at e
          refine hr _ H2 v u x y _ _ R2.nh (h1.same s2) h2 hF fun w H3 s3 h3 => ⟨true, by simpa only [Den] using h3, ite_t ⟨ρ, z, R2.st s3, hh, fun w' H4 s4 h4 => ?_⟩⟩
          exact hr' _ H4 u w' y z d Q (((R2.st s3).st s4)).nh ((h2.same s3).same s4) h4 e fun w2 H5 s5 h5 => q w2 H5 ((((s1.trans s2).trans s3).trans s4).trans s5) h5
      · next hF =>
        cases e
        exact hr _ H2 v u x y _ _ R2.nh (h1.same s2) h2 hF fun w H3 s3 h3 => ⟨false, by simpa only [Den] using h3, ite_f (q _ H3 ((s1.trans s2).trans s3) den_bl)⟩
      · cases e
theorem vc_chain {op op' : CmpOp} {r r' : R2} {F F' : D → D → Option D} (ho : OpR X (compareOp op) r) (ho' : OpR X (compareOp op') r') (hr : R2D K r F) (hr' : R2D K r' F') (ha : PE X a (tP K M H0 f)) (hb : PE X b (tP K M H0 g)) (hc : PE X c (tP K M H0 h))
    (hm : lastMarks [op, op'] [b, c] = false := by with_unfolding_all rfl) : PE X (.Compare a [op, op'] [b, c] pos) (tD K M H0 (chainO F F' f g h)) := (pe_chain ho ho' ha hb hc hm).mono fun _ _ _ q => tChain_D hr hr' q
theorem j_vc_chain {op op' : CmpOp} {r r' : R2} {F F' : D → D → Option D} (ho : OpR X (compareOp op) r) (ho' : OpR X (compareOp op') r') (hr : R2D K r F) (hr' : R2D K r' F') (ha : JE X a (tP K M H0 f)) (hb : JE X b (tP K M H0 g)) (hc : JE X c (tP K M H0 h)) (hm : lastMarks [op, op'] [b, c] = false := by with_unfolding_all rfl) : JE X (.Compare a [op, op'] [b, c] pos) (tD K M H0 (chainO F F' f g h)) := ⟨vc_chain ho ho' hr hr' ha.h hb.h hc.h hm⟩
theorem vtc_chain {op op' : CmpOp} {r r' : R2} {F F' : D → D → Option D} (ho : OpR X (compareOp op) r) (ho' : OpR X (compareOp op') r') (hr : R2D K r F) (hr' : R2D K r' F') (ha : PE X a (tP K M H0 f)) (hb : PE X b (tP K M H0 g)) (hc : PE X c (tP K M H0 h))
    (hm : lastMarks [op, op'] [b, c] = false := by with_unfolding_all rfl) : PT X (.Compare a [op, op'] [b, c] pos) (tB' K M H0 fun ρ => asB (chainO F F' f g h ρ)) := (pt_chain ho ho' ha hb hc hm).mono fun _ _ _ q => tTest_D (fun _ _ _ z => tChain_D hr hr' z) q

theorem j_vtc_chain {op op' : CmpOp} {r r' : R2} {F F' : D → D → Option D} (ho : OpR X (compareOp op) r) (ho' : OpR X (compareOp op') r') (hr : R2D K r F) (hr' : R2D K r' F') (ha : JE X a (tP K M H0 f)) (hb : JE X b (tP K M H0 g)) (hc : JE X c (tP K M H0 h)) (hm : lastMarks [op, op'] [b, c] = false := by with_unfolding_all rfl) : JT X (.Compare a [op, op'] [b, c] pos) (tB' K M H0 fun ρ => asB (chainO F F' f g h ρ)) := ⟨vtc_chain ho ho' hr hr' ha.h hb.h hc.h hm⟩
/-! ### truth -/
@[simp] def truD : Option D → Option Bool
  | some .non => some false
  | some (.bl b) => some b
  | some (.int i) => some (i != 0)
  | some (.str y) => if y.length ≤ sizeLine then some ((y.length : Int) != 0) else none
  | some (.lst xs) => some (!xs.isEmpty)
  | some (.tup xs) => some (!xs.isEmpty)
  | _ => none
theorem DenL.isEmpty {N : Fb} {H : Hp} {xs : List D} {vs : List V} (h : DenL K N H xs vs) : vs.isEmpty = xs.isEmpty := by
  cases xs with
  | nil => simp only [DenL] at h; subst h; rfl
  | cons x xs => simp only [DenL] at h; obtain ⟨_, _, e, _⟩ := h; subst e; rfl
theorem vt_tru (ha : PE X a (tP X.K M H0 f)) (he : ∀ whole, isTrue a X.env whole = (do let v ← whole; standAt a.pos; holding [v] (truthy v)) := by intro _; rfl) : PT X a (tB' X.K M H0 fun ρ => truD (f ρ)) :=
  (pt_truth ha he).mono fun σ H Q ⟨ρ, k, R, e, q⟩ => by
    try dsimp only at e q
    unfold truD at e
    split at e
    · next hf => cases e; exact ⟨ρ, _, R, hf, fun v H' s hv => ⟨_, by rw [hv.non]; rfl, q H' s⟩⟩
    · next hf => cases e; exact ⟨ρ, _, R, hf, fun v H' s hv => ⟨_, by rw [hv.bl]; rfl, q H' s⟩⟩
    · next hf => cases e; exact ⟨ρ, _, R, hf, fun v H' s hv => ⟨_, by rw [hv.int]; rfl, q H' s⟩⟩
    · next hf =>
      split at e
      · next hz => cases e; exact ⟨ρ, _, R, hf, fun v H' s hv => ⟨_, by rw [hv.str]; exact ⟨hz, rfl⟩, q H' s⟩⟩
      · cases e
    · next hf =>
      cases e
      refine ⟨ρ, _, R, hf, fun v H' s hv => ⟨_, ?_, q H' s⟩⟩
      obtain ⟨p, vs, e1, q1, r1⟩ := hv
      subst e1
      exact .inl ⟨vs, q1, by rw [r1.isEmpty]⟩
    · next hf =>
      cases e
      refine ⟨ρ, _, R, hf, fun v H' s hv => ⟨_, ?_, q H' s⟩⟩
      obtain ⟨p, vs, e1, q1, r1⟩ := hv.tup
      subst e1
      exact .inr (.inl ⟨vs, q1, by rw [r1.isEmpty]⟩)
    · cases e

theorem j_vt_tru (ha : JE X a (tP X.K M H0 f)) (he : ∀ whole, isTrue a X.env whole = (do let v ← whole; standAt a.pos; holding [v] (truthy v)) := by intro _; rfl) : JT X a (tB' X.K M H0 fun ρ => truD (f ρ)) := ⟨vt_tru ha.h he⟩
/-! ### what is walked: a list, a tuple, a text -/
@[simp] def seqItems : D → Option (List D)
  | .lst xs => some xs
  | .tup xs => some xs
  | .str x => some (x.cps.toList.map fun c => D.str ⟨#[c]⟩)
  | _ => none
theorem vi_seq {l : Expr} (hl : PE X l (tQ X.K M H0 f)) : PI X tg l (tI X.K M H0 fun ρ => (f ρ).bind seqItems) := fun pins s σ H R' I ⟨ρ, ds, R, e, q⟩ => by
  try dsimp only at e
  cases hf : f ρ with
  | none => rw [hf] at e; cases e
  | some d =>
    rw [hf] at e
    cases d with
    | lst xs => exact vi_list hl pins s σ H R' I ⟨ρ, ds, R, by dsimp only; rw [hf]; exact e, q⟩
    | tup xs => exact vi_tup hl pins s σ H R' I ⟨ρ, ds, R, by dsimp only; rw [hf]; exact e, q⟩
    | str x => exact vi_str hl pins s σ H R' I ⟨ρ, ds, R, by dsimp only; rw [hf]; exact e, q⟩
    | _ => cases e

theorem j_vi_seq {l : Expr} (hl : JE X l (tQ X.K M H0 f)) : JI X tg l (tI X.K M H0 fun ρ => (f ρ).bind seqItems) := ⟨vi_seq hl.h⟩
/-! ### further deeds with a list that is owned -/
/-- x.extend(a new list) -/
@[simp] def extR (i : Nat) (o : Option (List D)) (ρ : VE) : Res := match rdO ρ i, o with
  | some xs, some ys => if xs.length + ys.length ≤ sizeLine then .next (ρ.set i (.own (xs ++ ys))) else .fail
  | _, _ => .fail
theorem vs_extend {fl : VE → Option (List D)} {i : Nat} {x : Str} {vpos apos cpos : Pos} (he : PE X e (tF K M H0 fl)) (hN : X.N[i]? = some x := by rfl) (hv : Vis X.env.scope x := by first | exact Or.inl rfl | exact Or.inr (Or.inl rfl) | exact Or.inr (Or.inr rfl)) (hd : (x == ("__debug__" : Str)) = false := by decide) (hcd : (x == ("__classdict__" : Str)) = false := by decide)
    (hs : swapsWith (.Call (.Attribute (.Name x vpos) "extend" apos) [e] [] cpos) none pos.line X.env = pure false := by rfl)
    (hbase : attributeBase (.Name x vpos) "extend" X.env (eval (.Name x vpos) X.env) = eval (.Name x vpos) X.env := by rfl)
    (hfew : ((backTo cpos (starEach [e] X.env)).all (fun x => !x.1) && (backToKw cpos (keywordEach [] X.env)).all (fun x => x.1.isSome)
      && decide ([e].length + ([] : List Keyword).length + (if ([] : List Keyword).isEmpty then 0 else 1) < 30)) = true := by rfl)
    (hline : (apos.endLine == cpos.line) = true := by rfl) (hst : starEach [e] X.env = (false, eval e X.env) :: starEach [] X.env := by rfl) (hpl : (backTo cpos (starEach [] X.env)).any (·.1) = false := by rfl) :
    PS X (.Expr (.Call (.Attribute (.Name x vpos) "extend" apos) [e] [] cpos) pos) (tS K M H0 fun ρ => extR i (fl ρ) ρ) :=
  (ps_expr (pe_bm PySem.F.plainAttrs_list PySem.F.slot_list_extend PySem.F.type_list_extend mt_extend (pe_var hN hv hd hcd) (pa_cons he pa_nil hst) hbase hfew hline hst hpl) hs).mono fun D' σ H ⟨ρ, R, q⟩ => by
    try dsimp only at q
    cases hr : rdO ρ i with
    | none => simp only [hr, extR] at q; exact False.elim q
    | some xs =>
      cases hf : fl ρ with
      | none => simp only [hr, hf, extR] at q; exact False.elim q
      | some ys =>
        simp only [hr, hf, extR] at q
        split at q
        · next hz =>
          have hi := rdO_slot hr
          obtain ⟨a, vs, e1, z1, z2, z3, z4⟩ := R.slot i _ hi
          have ha := join_some e1
          refine ⟨.ref a, ha, .inl ⟨rfl, vs, .inl (.inl z3)⟩, ρ, ys, R, hf, fun p ws H1 s hp1 hp2 hw => ?_⟩
          have R1 := R.st s
          have hw' : DenL K (Nf M ρ σ) H1 ys ws := hw.nw fun b hb => .inl (.inl hb)
          obtain ⟨R2, S2⟩ := R1.chg (ys := xs ++ ys) (ws := vs ++ ws) hi ha ((z4.same s).append hw')
          exact ⟨a, p, vs, ws, rfl, rfl, s _ _ z3, hp2, by rw [← z4.length, ← hw'.length]; exact hz, q _ _ R2 ((Step.of_same s).trans S2)⟩
        · exact False.elim q
theorem j_vs_extend {fl : VE → Option (List D)} {i : Nat} {x : Str} {vpos apos cpos : Pos} (he : JE X e (tF K M H0 fl)) (hN : X.N[i]? = some x := by rfl) (hv : Vis X.env.scope x := by first | exact Or.inl rfl | exact Or.inr (Or.inl rfl) | exact Or.inr (Or.inr rfl)) (hd : (x == ("__debug__" : Str)) = false := by decide) (hcd : (x == ("__classdict__" : Str)) = false := by decide) (hs : swapsWith (.Call (.Attribute (.Name x vpos) "extend" apos) [e] [] cpos) none pos.line X.env = pure false := by rfl) (hbase : attributeBase (.Name x vpos) "extend" X.env (eval (.Name x vpos) X.env) = eval (.Name x vpos) X.env := by rfl) (hfew : ((backTo cpos (starEach [e] X.env)).all (fun x => !x.1) && (backToKw cpos (keywordEach [] X.env)).all (fun x => x.1.isSome)
      && decide ([e].length + ([] : List Keyword).length + (if ([] : List Keyword).isEmpty then 0 else 1) < 30)) = true := by rfl) (hline : (apos.endLine == cpos.line) = true := by rfl) (hst : starEach [e] X.env = (false, eval e X.env) :: starEach [] X.env := by rfl) (hpl : (backTo cpos (starEach [] X.env)).any (·.1) = false := by rfl) : JS X (.Expr (.Call (.Attribute (.Name x vpos) "extend" apos) [e] [] cpos) pos) (tS K M H0 fun ρ => extR i (fl ρ) ρ) := ⟨vs_extend he.h hN hv hd hcd hs hbase hfew hline hst hpl⟩
/-- x.reverse() -/
@[simp] def revR (i : Nat) (ρ : VE) : Res := match rdO ρ i with
  | some xs => .next (ρ.set i (.own xs.reverse))
  | _ => .fail
theorem vs_reverse {i : Nat} {x : Str} {vpos apos cpos : Pos} (hN : X.N[i]? = some x := by rfl) (hv : Vis X.env.scope x := by first | exact Or.inl rfl | exact Or.inr (Or.inl rfl) | exact Or.inr (Or.inr rfl)) (hd : (x == ("__debug__" : Str)) = false := by decide) (hcd : (x == ("__classdict__" : Str)) = false := by decide)
    (hs : swapsWith (.Call (.Attribute (.Name x vpos) "reverse" apos) [] [] cpos) none pos.line X.env = pure false := by rfl)
    (hbase : attributeBase (.Name x vpos) "reverse" X.env (eval (.Name x vpos) X.env) = eval (.Name x vpos) X.env := by rfl) (hline : (apos.endLine == cpos.line) = true := by rfl) :
    PS X (.Expr (.Call (.Attribute (.Name x vpos) "reverse" apos) [] [] cpos) pos) (tS K M H0 fun ρ => revR i ρ) :=
  (ps_expr (pe_bm0 PySem.F.plainAttrs_list PySem.F.slot_list_reverse PySem.F.type_list_reverse mt_reverse (pe_var hN hv hd hcd) hbase hline) hs).mono fun D' σ H ⟨ρ, R, q⟩ => by
    try dsimp only at q
    cases hr : rdO ρ i with
    | none => simp only [hr, revR] at q; exact False.elim q
    | some xs =>
      simp only [hr, revR] at q
      have hi := rdO_slot hr
      obtain ⟨a, vs, e1, z1, z2, z3, z4⟩ := R.slot i _ hi
      have ha := join_some e1
      obtain ⟨R2, S2⟩ := R.chg (ys := xs.reverse) (ws := vs.reverse) hi ha z4.reverse
      exact ⟨.ref a, ha, .inl ⟨rfl, vs, .inl (.inl z3)⟩, a, vs, rfl, rfl, z3, q _ _ R2 S2⟩
theorem j_vs_reverse {i : Nat} {x : Str} {vpos apos cpos : Pos} (hN : X.N[i]? = some x := by rfl) (hv : Vis X.env.scope x := by first | exact Or.inl rfl | exact Or.inr (Or.inl rfl) | exact Or.inr (Or.inr rfl)) (hd : (x == ("__debug__" : Str)) = false := by decide) (hcd : (x == ("__classdict__" : Str)) = false := by decide) (hs : swapsWith (.Call (.Attribute (.Name x vpos) "reverse" apos) [] [] cpos) none pos.line X.env = pure false := by rfl) (hbase : attributeBase (.Name x vpos) "reverse" X.env (eval (.Name x vpos) X.env) = eval (.Name x vpos) X.env := by rfl) (hline : (apos.endLine == cpos.line) = true := by rfl) : JS X (.Expr (.Call (.Attribute (.Name x vpos) "reverse" apos) [] [] cpos) pos) (tS K M H0 fun ρ => revR i ρ) := ⟨vs_reverse hN hv hd hcd hs hbase hline⟩
/-- a list that is owned goes from slot j to slot i -/
@[simp] def movR (i j : Nat) (ρ : VE) : Res := match rdO ρ j with
  | some xs => .next ((ρ.set j .no).set i (.own xs))
  | _ => .fail
theorem nf_mov {ρ : VE} {σ : St} {i j : Nat} {xs : List D} {a : Addr} (hl : ρ.length = σ.length) (hj : ρ[j]? = some (.own xs)) (ha : σ[j]? = some (some (.ref a))) {b : Addr} (hb : Nf M ((ρ.set j .no).set i (.own xs)) (σ.set i (some (.ref a))) b) : Nf M ρ σ b := by
  rcases hb with hb | ⟨k, ys, h1, h2⟩
  · exact .inl hb
  · by_cases ek : i = k
    · subst ek
      have q1 := (set_get h1).2
      have q2 := (set_get h2).2
      cases q1; cases q2
      exact .inr ⟨j, xs, hj, ha⟩
    · rw [List.getElem?_set_ne ek] at h1 h2
      by_cases ejk : j = k
      · subst ejk
        have q1 := (set_get h1).2
        cases q1
      · rw [List.getElem?_set_ne ejk] at h1
        exact .inr ⟨k, ys, h1, h2⟩
theorem Rel.mov {ρ : VE} {σ : St} {H : Hp} {i j : Nat} {xs : List D} {a : Addr} (R : Rel K M H0 ρ σ H) (hj : ρ[j]? = some (.own xs)) (ha : σ[j]? = some (some (.ref a))) :
    Rel K M H0 ((ρ.set j .no).set i (.own xs)) (σ.set i (some (.ref a))) H ∧ Step M (Nf M ρ σ) (Nf M ((ρ.set j .no).set i (.own xs)) (σ.set i (some (.ref a)))) H H := by
  obtain ⟨a', vs, e1, z1, z2, z3, z4⟩ := R.slot j _ hj
  rw [ha] at e1
  have ea : a = a' := by simpa using e1
  subst ea
  have S : Step M (Nf M ρ σ) (Nf M ((ρ.set j .no).set i (.own xs)) (σ.set i (some (.ref a)))) H H := ⟨fun _ _ e _ => e, fun b hb => .inl (nf_mov R.len hj ha hb)⟩
  refine ⟨⟨by simp [R.len], R.same, R.mh, fun k s e => ?_, fun k l ys zs b h1 h2 h3 h4 => ?_⟩, S⟩
  · by_cases ek : i = k
    · subst ek
      obtain ⟨hi, e⟩ := set_get e
      subst e
      rw [List.getElem?_set_self (by rw [← R.len]; simpa using hi)]
      exact ⟨a, vs, rfl, z1, z2, z3, DenL.step S xs vs z4⟩
    · rw [List.getElem?_set_ne ek] at e ⊢
      by_cases ejk : j = k
      · subst ejk
        obtain ⟨_, e⟩ := set_get e
        subst e; trivial
      · rw [List.getElem?_set_ne ejk] at e
        have q := R.slot k s e
        cases s with
        | no => trivial
        | val d => obtain ⟨u, e1, h⟩ := q; exact ⟨u, e1, Den.step S d u h⟩
        | own ys => obtain ⟨b, us, e1, h1, h2, h3, h4⟩ := q; exact ⟨b, us, e1, h1, h2, h3, DenL.step S ys us h4⟩
        | lent ys => obtain ⟨b, us, e1, h1, h2, h3⟩ := q; exact ⟨b, us, e1, h1, h2.step S (.inr (.inl h1)), DenL.step S ys us h3⟩
  · -- where the moved list and another one meet
    have back : ∀ (k : Nat) (ys : List D), ((ρ.set j .no).set i (.own xs))[k]? = some (Sl.own ys) → (σ.set i (some (.ref a)))[k]? = some (some (V.ref b)) → (k = i ∧ b = a) ∨ (k ≠ i ∧ k ≠ j ∧ ρ[k]? = some (Sl.own ys) ∧ σ[k]? = some (some (V.ref b))) := by
      intro k ys h1 h2
      by_cases ek : i = k
      · subst ek
        have q2 := (set_get h2).2
        cases q2
        exact .inl ⟨rfl, rfl⟩
      · rw [List.getElem?_set_ne ek] at h1 h2
        by_cases ejk : j = k
        · subst ejk
          have q1 := (set_get h1).2
          cases q1
        · rw [List.getElem?_set_ne ejk] at h1
          exact .inr ⟨Ne.symm ek, Ne.symm ejk, h1, h2⟩
    rcases back k ys h1 h3 with ⟨k1, kb⟩ | ⟨k1, k2, k3, k4⟩
    · rcases back l zs h2 h4 with ⟨l1, lb⟩ | ⟨l1, l2, l3, l4⟩
      · rw [k1, l1]
      · subst kb; exact absurd (R.inj l j zs xs b l3 hj l4 ha) l2
    · rcases back l zs h2 h4 with ⟨l1, lb⟩ | ⟨l1, l2, l3, l4⟩
      · subst lb; exact absurd (R.inj k j ys xs b k3 hj k4 ha) k2
      · exact R.inj k l ys zs b k3 l3 k4 l4
theorem vs_mov {i j : Nat} {x y : Str} {pos' vpos : Pos} (hN : X.N.Nodup) (hi : X.N[i]? = some x) (hx : Loc X.env.scope x) (hj : X.N[j]? = some y := by rfl) (hv : Vis X.env.scope y := by first | exact Or.inl rfl | exact Or.inr (Or.inl rfl) | exact Or.inr (Or.inr rfl)) (hd : (y == ("__debug__" : Str)) = false := by decide) (hcd : (y == ("__classdict__" : Str)) = false := by decide)
    (hs : swapsWith (.Name y vpos) (some (.Name x pos')) pos.line X.env = pure false := by rfl) (hf : X.fn x = true ∨ X.env.scope.names.lookup x = some .local := by first | exact .inl rfl | exact .inr rfl | assumption) :
    PS X (.Assign [.Name x pos'] (.Name y vpos) pos) (tS K M H0 fun ρ => movR i j ρ) := (ps_set hN hi hx (pe_var hj hv hd hcd) hs hf).mono fun D' σ H ⟨ρ, R, q⟩ => by
  try dsimp only at q
  cases hr : rdO ρ j with
  | none => simp only [hr, movR] at q; exact False.elim q
  | some xs =>
    simp only [hr, movR] at q
    have hj' := rdO_slot hr
    obtain ⟨a, vs, e1, z1, z2, z3, z4⟩ := R.slot j _ hj'
    have ha := join_some e1
    obtain ⟨R1, S1⟩ := R.mov (i := i) hj' ha
    exact ⟨.ref a, ha, q _ _ R1 S1⟩
theorem j_vs_mov {i j : Nat} {x y : Str} {pos' vpos : Pos} (hN : X.N.Nodup) (hi : X.N[i]? = some x) (hx : Loc X.env.scope x) (hj : X.N[j]? = some y := by rfl) (hv : Vis X.env.scope y := by first | exact Or.inl rfl | exact Or.inr (Or.inl rfl) | exact Or.inr (Or.inr rfl)) (hd : (y == ("__debug__" : Str)) = false := by decide) (hcd : (y == ("__classdict__" : Str)) = false := by decide) (hs : swapsWith (.Name y vpos) (some (.Name x pos')) pos.line X.env = pure false := by rfl) (hf : X.fn x = true ∨ X.env.scope.names.lookup x = some .local := by first | exact .inl rfl | exact .inr rfl | assumption) : JS X (.Assign [.Name x pos'] (.Name y vpos) pos) (tS K M H0 fun ρ => movR i j ρ) := ⟨vs_mov hN hi hx hj hv hd hcd hs hf⟩
end
end L2
namespace L2
theorem PSs.conv {X : Cx} {K : PySem.W.Frag} {M : Fb} {H0 : Hp} {b : List PySem.Stmt} {g g' : VE → Res} (h : PSs X b (tS K M H0 g)) (e : g = g') : PSs X b (tS K M H0 g') := e ▸ h
theorem j_conv {X : Cx} {K : PySem.W.Frag} {M : Fb} {H0 : Hp} {b : List PySem.Stmt} {g g' : VE → Res} (h : JB X b (tS K M H0 g)) (e : g = g') : JB X b (tS K M H0 g') := ⟨PSs.conv h.h e⟩
end L2
namespace L2
theorem j_pt {X : Cx} {e : PySem.Expr} {t : TT} (h : JW X e t) : JT X e t := ⟨h.h.pt⟩
end L2

set_option Elab.async false
set_option linter.all false
set_option maxRecDepth 100000
namespace L2
open PySem PySem.Spec PyProof.Rows

/-! ### sorted of fewer than 64 ints -/
def isrt (ns : List Int) : List Int := ns.mergeSort fun a b => decide (a ≤ b)
theorem isrt_perm (ns : List Int) : (isrt ns).Perm ns := List.mergeSort_perm _ _
theorem isrt_pair (ns : List Int) : (isrt ns).Pairwise (· ≤ ·) := by
  have h := List.pairwise_mergeSort (le := fun a b : Int => decide (a ≤ b)) (by intro a b c h1 h2; simp at *; omega) (by intro a b; simp; omega) ns
  exact h.imp fun h => by simpa using h
theorem isrt_same {ns ms : List Int} (hp : ms.Perm ns) (h : ms.Pairwise (· ≤ ·)) : ms = isrt ns :=
  List.Perm.eq_of_pairwise (le := (· ≤ ·)) (fun a b _ _ h1 h2 => Int.le_antisymm h1 h2) h (isrt_pair ns) (hp.trans (isrt_perm ns).symm)
theorem isrt_len (ns : List Int) : (isrt ns).length = ns.length := (isrt_perm ns).length_eq
section
variable {X : Cx} {K : PySem.W.Frag}
theorem call_sortI : CallR X (.builtin "sorted") (fun xs H Q => ∃ (a : Addr) (ns : List Int), xs = [.ref a] ∧ SqL X.K H a (ns.map V.int) ∧ ns.length < 64 ∧ ∀ p, H p = none → Q (.ref p) (upd H p (.lst ((isrt ns).map V.int)))) := by
  intro pins s σ H xs us Q I r h
  obtain ⟨a, ns, rfl, hs, h64, q⟩ := h
  obtain ⟨u, rfl, rx⟩ := vals1 r
  cases rx
  obtain ⟨its, rv, p, hz⟩ := I.list hs
  have hl := rv.length
  rw [List.length_map] at hl hz
  refine sorted_ints p.isList (intsAre_of rv) (by omega) fun out ns' a1 a2 a3 => ?_
  obtain ⟨e, he⟩ := sortedAll_at s.heap its out
  have en := isrt_same a2 a3
  subst en
  refine ⟨.ref _, _, I.laid (t' := s.toks) (o := .lst ((isrt ns).map V.int)) (fun b o q => sortedAll_old q) (Nat.le_succ _) ?_, rfl, q _ (I.hok.fresh (Nat.le_succ _))⟩
  exact ⟨by rw [List.length_map, isrt_len]; exact hz, out.toList, e, vals_ints a1, he⟩
def sortD : List D → Option (List D)
  | [.lst xs] => (asIs xs).bind fun ns => if ns.length < 64 then some ((isrt ns).map D.int) else none
  | _ => none
theorem rc_sortI : RcF K (fun xs H Q => ∃ (a : Addr) (ns : List Int), xs = [.ref a] ∧ SqL K H a (ns.map V.int) ∧ ns.length < 64 ∧ ∀ p, H p = none → Q (.ref p) (upd H p (.lst ((isrt ns).map V.int)))) sortD := by
  intro N H vs ds xs Q nh h e q
  unfold sortD at e
  split at e
  · next ys =>
    cases hb : asIs ys with
    | none => rw [hb] at e; cases e
    | some ns =>
      rw [hb] at e
      simp only [Option.bind] at e
      split at e
      · next h64 =>
        cases e
        obtain ⟨v, rfl, hv⟩ := Paired.one' h
        obtain ⟨a, ws, e1, q1, r1⟩ := hv
        subst e1
        rw [asIs_map hb] at r1
        rw [denL_ints r1] at q1
        exact ⟨a, ns, rfl, q1, h64, fun p hp => q _ p hp (DenL.ints _)⟩
      · cases e
  · cases e

/-! ### x[i] = v of a list that is owned -/
def putR (i : Nat) (oi ov : Option D) (ρ : VE) : Res := match rdO ρ i, oi, ov with
  | some xs, some (.int k), some d => match ixN xs.length k with
    | some j => .next (ρ.set i (.own (xs.set j d)))
    | none => .fail
  | _, _, _ => .fail
theorem vs_item {M : Fb} {H0 : Hp} {i : Nat} {x : Str} {vpos tpos pos : Pos} {ei e : Expr} {fi f : VE → Option D} (hi : PE X ei (tP K M H0 fi)) (he : PE X e (tD K M H0 f)) (hN : X.N[i]? = some x := by rfl)
    (hv : Vis X.env.scope x := by first | exact Or.inl rfl | exact Or.inr (Or.inl rfl) | exact Or.inr (Or.inr rfl)) (hd : (x == ("__debug__" : Str)) = false := by decide) (hcd : (x == ("__classdict__" : Str)) = false := by decide)
    (ha : ∀ v, assign (.Subscript (.Name x vpos) ei tpos) X.env v = (do
      let ov ← holding [v] (eval (.Name x vpos) X.env)
      let iv ← holding [v, ov] (eval ei X.env)
      standAt tpos
      holding [v, ov, iv] (setItem ov iv v)
      release [v, ov, iv] []) := by intro _; rfl)
    (hs : swapsWithSole [.Subscript (.Name x vpos) ei tpos] e pos.line X.env = pure false := by rfl) (hw : swappedStores [.Subscript (.Name x vpos) ei tpos] e X.env = pure none := by rfl)
    (h1 : (assignEach [.Subscript (.Name x vpos) ei tpos] X.env).map (·.2) = [assign (.Subscript (.Name x vpos) ei tpos) X.env] := by rfl) :
    PS X (.Assign [.Subscript (.Name x vpos) ei tpos] e pos) (tS K M H0 fun ρ => putR i (fi ρ) (f ρ) ρ) := (ps_asg he (pg_sub (pe_var hN hv hd hcd) hi set_list ha) hs hw h1).mono fun D' σ H ⟨ρ, R, q⟩ => by
  try dsimp only at q
  unfold putR at q
  split at q
  · next xs k d hr hfi hf =>
    split at q
    · next j hj =>
      refine ⟨ρ, d, R, hf, fun v H1 s1 hv => ?_⟩
      have hi' := rdO_slot hr
      have R1 := R.st s1
      obtain ⟨a, vs, e1, z1, z2, z3, z4⟩ := R1.slot i _ hi'
      have ha := join_some e1
      refine ⟨.ref a, ha, ρ, .int k, R1, hfi, fun w H2 s2 hw => ?_⟩
      have R2 := R1.st s2
      obtain ⟨R3, S3⟩ := R2.chg (ys := xs.set j d) (ws := vs.set j v) hi' ha (DenL.set j (z4.same s2) (hv.same s2))
      exact ⟨a, vs, k, j, rfl, hw.int, s2 _ _ z3, by rw [← z4.length]; exact hj, q _ _ R3 ((Step.of_same (s1.trans s2)).trans S3)⟩
    · exact False.elim q
  · exact False.elim q

theorem j_vs_item {M : Fb} {H0 : Hp} {i : Nat} {x : Str} {vpos tpos pos : Pos} {ei e : Expr} {fi f : VE → Option D} (hi : JE X ei (tP K M H0 fi)) (he : JE X e (tD K M H0 f)) (hN : X.N[i]? = some x := by rfl) (hv : Vis X.env.scope x := by first | exact Or.inl rfl | exact Or.inr (Or.inl rfl) | exact Or.inr (Or.inr rfl)) (hd : (x == ("__debug__" : Str)) = false := by decide) (hcd : (x == ("__classdict__" : Str)) = false := by decide) (ha : ∀ v, assign (.Subscript (.Name x vpos) ei tpos) X.env v = (do
      let ov ← holding [v] (eval (.Name x vpos) X.env)
      let iv ← holding [v, ov] (eval ei X.env)
      standAt tpos
      holding [v, ov, iv] (setItem ov iv v)
      release [v, ov, iv] []) := by intro _; rfl) (hs : swapsWithSole [.Subscript (.Name x vpos) ei tpos] e pos.line X.env = pure false := by rfl) (hw : swappedStores [.Subscript (.Name x vpos) ei tpos] e X.env = pure none := by rfl) (h1 : (assignEach [.Subscript (.Name x vpos) ei tpos] X.env).map (·.2) = [assign (.Subscript (.Name x vpos) ei tpos) X.env] := by rfl) : JS X (.Assign [.Subscript (.Name x vpos) ei tpos] e pos) (tS K M H0 fun ρ => putR i (fi ρ) (f ρ) ρ) := ⟨vs_item hi.h he.h hN hv hd hcd ha hs hw h1⟩
/-! ### methods of texts -/
def RmD (K : PySem.W.Frag) (r : V → List V → Hp → VK → Prop) (F : Str → List D → Option D) : Prop := ∀ (N : Fb) (H : Hp) (z : Str) (vs : List V) (ds : List D) (d : D) (Q : VK), (∀ a, N a → H a ≠ none) → Paired (DenP K N H) ds vs → F z ds = some d →
  (∀ v H', Same H H' → Den K N H' d v → Q v H') → r (.str z) vs H Q
@[simp] def mtO (F : Str → List D → Option D) (f : VE → Option D) (fa : VE → Option (List Sl)) : VE → Option D := fun ρ => match f ρ with
  | some (.str z) => ((fa ρ).bind pks).bind (F z)
  | _ => none
@[simp] def mtO0 (F : Str → List D → Option D) (f : VE → Option D) : VE → Option D := fun ρ => match f ρ with
  | some (.str z) => F z []
  | _ => none
section
variable {M : Fb} {H0 : Hp} {o e : Expr} {es : List Expr} {f : VE → Option D} {fa : VE → Option (List Sl)} {name : Str} {apos cpos : Pos} {id : String} {r : V → List V → Hp → VK → Prop} {F : Str → List D → Option D}
theorem ve_bm (pa : PlainAttrs "str") (slot : Slot "str" name id) (hty : typeOf (.builtin id) = pure (.type "method_descriptor")) (hm : MtR X id r) (hF : RmD X.K r F) (ho : PE X o (tP X.K M H0 f)) (ha : PA X (e :: es) (tA' X.K M H0 fa))
    (hbase : attributeBase o name X.env (eval o X.env) = eval o X.env := by rfl)
    (hfew : ((backTo cpos (starEach (e :: es) X.env)).all (fun x => !x.1) && (backToKw cpos (keywordEach [] X.env)).all (fun x => x.1.isSome)
      && decide ((e :: es).length + ([] : List Keyword).length + (if ([] : List Keyword).isEmpty then 0 else 1) < 30)) = true := by rfl)
    (hline : (apos.endLine == cpos.line) = true := by rfl) (hs : starEach (e :: es) X.env = (false, eval e X.env) :: starEach es X.env := by exact star_c (fun _ _ z => nomatch z)) (hplain : (backTo cpos (starEach es X.env)).any (·.1) = false := by rfl) :
    PE X (.Call (.Attribute o name apos) (e :: es) [] cpos) (tD X.K M H0 (mtO F f fa)) := (pe_bm pa slot hty hm ho ha hbase hfew hline hs hplain).mono fun σ H Q ⟨ρ, d, R, ex, q⟩ => by
  unfold mtO at ex
  split at ex
  · next z hz =>
    cases hf : fa ρ with
    | none => rw [hf] at ex; cases ex
    | some ss =>
      rw [hf] at ex
      cases hp : pks ss with
      | none => simp only [Option.bind, hp] at ex; cases ex
      | some ds =>
        simp only [Option.bind, hp] at ex
        refine ⟨ρ, .str z, R, hz, fun v H1 s1 hv => ?_⟩
        rw [hv.str]
        refine ⟨rfl, ρ, ss, R.st s1, hf, fun vs H2 s2 h2 => ?_⟩
        exact hF _ H2 z vs ds d Q ((R.st s1).st s2).nh (pks_den h2 hp) ex fun w H3 s3 hw => q w H3 ((s1.trans s2).trans s3) hw
  · cases ex
theorem j_ve_bm (pa : PlainAttrs "str") (slot : Slot "str" name id) (hty : typeOf (.builtin id) = pure (.type "method_descriptor")) (hm : MtR X id r) (hF : RmD X.K r F) (ho : JE X o (tP X.K M H0 f)) (ha : JA X (e :: es) (tA' X.K M H0 fa)) (hbase : attributeBase o name X.env (eval o X.env) = eval o X.env := by rfl) (hfew : ((backTo cpos (starEach (e :: es) X.env)).all (fun x => !x.1) && (backToKw cpos (keywordEach [] X.env)).all (fun x => x.1.isSome)
      && decide ((e :: es).length + ([] : List Keyword).length + (if ([] : List Keyword).isEmpty then 0 else 1) < 30)) = true := by rfl) (hline : (apos.endLine == cpos.line) = true := by rfl) (hs : starEach (e :: es) X.env = (false, eval e X.env) :: starEach es X.env := by exact star_c (fun _ _ z => nomatch z)) (hplain : (backTo cpos (starEach es X.env)).any (·.1) = false := by rfl) : JE X (.Call (.Attribute o name apos) (e :: es) [] cpos) (tD X.K M H0 (mtO F f fa)) := ⟨ve_bm pa slot hty hm hF ho.h ha.h hbase hfew hline hs hplain⟩
theorem ve_bm0 (pa : PlainAttrs "str") (slot : Slot "str" name id) (hty : typeOf (.builtin id) = pure (.type "method_descriptor")) (hm : MtR X id r) (hF : RmD X.K r F) (ho : PE X o (tP X.K M H0 f))
    (hbase : attributeBase o name X.env (eval o X.env) = eval o X.env := by rfl) (hline : (apos.endLine == cpos.line) = true := by rfl) :
    PE X (.Call (.Attribute o name apos) [] [] cpos) (tD X.K M H0 (mtO0 F f)) := (pe_bm0 pa slot hty hm ho hbase hline).mono fun σ H Q ⟨ρ, d, R, ex, q⟩ => by
  unfold mtO0 at ex
  split at ex
  · next z hz =>
    refine ⟨ρ, .str z, R, hz, fun v H1 s1 hv => ?_⟩
    rw [hv.str]
    exact ⟨rfl, hF _ H1 z [] [] d Q (R.st s1).nh .nil ex fun w H3 s3 hw => q w H3 (s1.trans s3) hw⟩
  · cases ex
theorem j_ve_bm0 (pa : PlainAttrs "str") (slot : Slot "str" name id) (hty : typeOf (.builtin id) = pure (.type "method_descriptor")) (hm : MtR X id r) (hF : RmD X.K r F) (ho : JE X o (tP X.K M H0 f)) (hbase : attributeBase o name X.env (eval o X.env) = eval o X.env := by rfl) (hline : (apos.endLine == cpos.line) = true := by rfl) : JE X (.Call (.Attribute o name apos) [] [] cpos) (tD X.K M H0 (mtO0 F f)) := ⟨ve_bm0 pa slot hty hm hF ho.h hbase hline⟩
end
def asSs : List D → Option (List Str)
  | [] => some []
  | .str b :: r => (asSs r).map (b :: ·)
  | _ => none
theorem asSs_map : ∀ {xs : List D} {bs : List Str}, asSs xs = some bs → xs = bs.map D.str
  | [], _, e => by cases e; rfl
  | .str b :: r, _, e => by
    simp only [asSs] at e
    cases h : asSs r with
    | none => rw [h] at e; cases e
    | some bs => rw [h] at e; cases e; rw [asSs_map h]; rfl
  | .non :: _, _, e => nomatch e
  | .bl _ :: _, _, e => nomatch e
  | .int _ :: _, _, e => nomatch e
  | .ty _ :: _, _, e => nomatch e
  | .tup _ :: _, _, e => nomatch e
  | .lst _ :: _, _, e => nomatch e
@[simp] theorem asSs_eq : ∀ (ns : List Str), asSs (ns.map D.str) = some ns
  | [] => rfl
  | n :: ns => by simp only [List.map_cons, asSs, asSs_eq ns]; rfl
theorem denL_strs {N : Fb} {H : Hp} : ∀ {bs : List Str} {vs : List V}, DenL K N H (bs.map D.str) vs → vs = bs.map V.str
  | [], _, h => by simpa only [List.map_nil, DenL] using h
  | b :: bs, _, h => by
    simp only [List.map_cons, DenL, Den] at h
    obtain ⟨v, r, e, hv, t⟩ := h
    subst e hv
    rw [denL_strs t]; rfl
@[simp] def joinD (z : Str) : List D → Option D
  | [.lst xs] => (asSs xs).bind fun zs => if (zs.map (·.length)).sum + zs.length * z.length ≤ 16777216 then some (.str (Txt.join z zs)) else none
  | _ => none
theorem rm_join : RmD K (rJoin K) joinD := by
  intro N H z vs ds d Q nh h e q
  unfold joinD at e
  split at e
  · next xs =>
    cases hb : asSs xs with
    | none => rw [hb] at e; cases e
    | some zs =>
      rw [hb] at e
      simp only [Option.bind] at e
      split at e
      · next hz =>
        cases e
        obtain ⟨v, rfl, hv⟩ := Paired.one' h
        obtain ⟨a, ws, e1, q1, r1⟩ := hv
        subst e1
        rw [asSs_map hb] at r1
        rw [denL_strs r1] at q1
        exact ⟨z, a, zs, rfl, rfl, q1, hz, q _ H (Same.refl H) den_str⟩
      · cases e
  · cases e
@[simp] def findD (z : Str) : List D → Option D
  | [.str y] => some (.int (Txt.find z y))
  | _ => none
theorem rm_find : RmD K rFind findD := by
  intro N H z vs ds d Q nh h e q
  unfold findD at e
  split at e
  · next y =>
    cases e
    obtain ⟨v, rfl, hv⟩ := Paired.one' h
    exact ⟨z, y, rfl, by rw [hv.str], q _ H (Same.refl H) den_int⟩
  · cases e
@[simp] def upperD (z : Str) : List D → Option D
  | [] => if Builtin.Str.tooLong (Txt.upper z).length = false then some (.str (Txt.upper z)) else none
  | _ => none
theorem rm_upper : RmD K rUpper upperD := by
  intro N H z vs ds d Q nh h e q
  unfold upperD at e
  split at e
  · split at e
    · next hz => cases e; cases h; exact ⟨z, rfl, rfl, hz, q _ H (Same.refl H) den_str⟩
    · cases e
  · cases e
end
end L2

set_option Elab.async false
set_option linter.all false
set_option maxRecDepth 100000
/-! zip of two things that are walked: lists and tuples -/
namespace L2
open PySem PySem.Spec PyProof.Rows

/-- one of the two walks: its iterator at i, what it leans on at fp, n items -/
structure SubIt (P : Program) (w : World) (i : Addr) (fp : List Addr) (n : Nat) (is : Nat → Value → Prop) (st : Nat → Heap → Prop) : Prop where
  frame : ∀ k h h', st k h → (∀ b, b = i ∨ b ∈ fp → ∀ o, h.get? b = some o → h'.get? b = some o) → st k h'
  lt : ∀ k h, st k h → i < h.objs.size
  item : ∀ (A : Around) (E : Value → Shared → Prop) (s : Shared) (k : Nat) (Q : Value → Shared → Prop), k < n → st k s.heap → (∀ v h', is k v → st (k + 1) h' → Heap.SameBut i s.heap h' → Q v { s with heap := h' }) → wpAny (model P w) A (Builtin.SmallTypes.nextOf (.ref i)) Q E s
  fin : ∀ (A : Around) (E : Value → Shared → Prop) (s : Shared) (k : Nat) (Q : Value → Shared → Prop), A.handled = none → n ≤ k → st k s.heap → (∀ h' e, Heap.ExtBut i s.heap h' → (∃ o, h'.get? e = some o ∧ o.cls = .type "StopIteration") → E (.ref e) { s with heap := h' }) →
    wpAny (model P w) A (Builtin.SmallTypes.nextOf (.ref i)) Q E s
section
variable {prog : Program} {w : World} {A : Around} {E : Value → Shared → Prop} {s : Shared}
theorem nextOf_tup_item {i tu : Addr} {k : Nat} {its : Array Value} {v : Value} {Q : Value → Shared → Prop} (hi : s.heap.IsTupleIter i tu k) (ht : s.heap.IsTuple tu its) (hv : its[k]? = some v)
    (q : ∀ h', h'.IsTupleIter i tu (k + 1) → Heap.SameBut i s.heap h' → Q v { s with heap := h' }) : wpAny (model prog w) A (Builtin.SmallTypes.nextOf (.ref i)) Q E s := by
  obtain ⟨oi, e0, c0, f0⟩ := id hi
  obtain ⟨ot, e1, _, m1, f1⟩ := ht
  unfold Builtin.SmallTypes.nextOf
  refine wpAny_bind (wpAny_callSpecial?_slot (name := Str.ofString "__next__") hi.typeIs PySem.F.slot_tuple_iterator_next (wpAny_call_entry PySem.F.slot_tuple_iterator_next hi.typeIs PySem.F.entry_tuple_iterator_next ?_ (PySem.F.args_tuple_iterator_next_1 _)))
  show wpAny _ _ (field (.ref i) 0 >>= _) _ _ s
  refine wpAny_bind (wpAny_field e0 f0 (x := .ref tu) rfl ?_)
  show wpAny _ _ (if (Value.ref tu == Value.none) = true then _ else _) _ _ s
  rw [if_neg (show ¬ ((Value.ref tu == Value.none) = true) from Bool.false_ne_true)]
  show wpAny _ _ (field (.ref i) 1 >>= _) _ _ s
  refine wpAny_bind (wpAny_field e0 f0 (x := .int k 0) rfl ?_)
  show wpAny _ _ (seqItems? (.ref tu) >>= _) _ _ s
  refine wpAny_bind (wpAny_seqItems e1 f1 ?_)
  simp only [hv, Int.toNat_natCast]
  refine wpAny_bind (wpAny_setField e0 f0 (by simp) (wpAny_pure ⟨v, rfl, wpAny_pure (q _ ?_ (Heap.SameBut.update ..))⟩))
  exact ⟨_, Heap.get?_update_self _ e0 (Obj.isFreed_of_fields (Obj.data_mapFields f0 _)), (Obj.cls_mapFields ..).trans c0, by rw [Obj.data_mapFields f0]; simp [rawInt]⟩
theorem nextOf_tup_fin {i tu : Addr} {k : Nat} {its : Array Value} {Q : Value → Shared → Prop} (hh : A.handled = none) (hi : s.heap.IsTupleIter i tu k) (ht : s.heap.IsTuple tu its) (hv : its[k]? = none)
    (q : ∀ h' e, Heap.ExtBut i s.heap h' → (∃ o, h'.get? e = some o ∧ o.cls = .type "StopIteration") → E (.ref e) { s with heap := h' }) : wpAny (model prog w) A (Builtin.SmallTypes.nextOf (.ref i)) Q E s := by
  obtain ⟨oi, e0, c0, f0⟩ := id hi
  obtain ⟨ot, e1, _, m1, f1⟩ := ht
  unfold Builtin.SmallTypes.nextOf
  refine wpAny_bind (wpAny_callSpecial?_slot (name := Str.ofString "__next__") hi.typeIs PySem.F.slot_tuple_iterator_next (wpAny_call_entry PySem.F.slot_tuple_iterator_next hi.typeIs PySem.F.entry_tuple_iterator_next ?_ (PySem.F.args_tuple_iterator_next_1 _)))
  show wpAny _ _ (field (.ref i) 0 >>= _) _ _ s
  refine wpAny_bind (wpAny_field e0 f0 (x := .ref tu) rfl ?_)
  show wpAny _ _ (if (Value.ref tu == Value.none) = true then _ else _) _ _ s
  rw [if_neg (show ¬ ((Value.ref tu == Value.none) = true) from Bool.false_ne_true)]
  show wpAny _ _ (field (.ref i) 1 >>= _) _ _ s
  refine wpAny_bind (wpAny_field e0 f0 (x := .int k 0) rfl ?_)
  show wpAny _ _ (seqItems? (.ref tu) >>= _) _ _ s
  refine wpAny_bind (wpAny_seqItems e1 f1 ?_)
  simp only [hv, Int.toNat_natCast]
  refine wpAny_bind (wpAny_rule (wpAny_bind (wpAny_setField e0 f0 (by simp) ?_)))
  show wpAny _ _ (newExc (.type "StopIteration") ([] : List Value) >>= _) _ _ _
  refine wpAny_bind ?_
  simp only [newTuple, newExc]
  refine wpAny_bind (wpAny_newObj_type ?_ (show (0 : Nat) ≤ sizeLine by decide))
  refine wpAny_bind (m := firstArgMember _ _) (wpAny_of_eq (a := Value.none) (by first | rfl | (unfold firstArgMember; rfl)) ?_)
  refine wpAny_newObj_type ?_ (by first | trivial | (show (0 : Nat) ≤ sizeLine; decide) | size_fits)
  unfold raiseNew
  refine wpAny_bind (wpAny_handled ?_)
  first | rw [hh] | rw [show A.in1.handled = none from hh]
  refine wpAny_bind (wpAny_pure (wpAny_throw ?_))
  exact q _ _ ((Heap.ExtBut.push (Heap.SameBut.extBut (Heap.SameBut.update ..)) _).push _) ⟨_, Heap.get?_push_size _ rfl, rfl⟩
theorem sub_list {P : Program} {w : World} {i l : Addr} (its : Array Value) : SubIt P w i [l] its.size (fun k v => its[k]? = some v) (fun k h => h.IsListIter i l k ∧ h.IsList l its) where
  frame := fun k h h' ⟨a, b⟩ kp => ⟨a.at fun o e => kp i (.inl rfl) o e, b.at fun o e => kp l (.inr (by simp)) o e⟩
  lt := fun k h ⟨⟨o, e, _⟩, _⟩ => Heap.lt_size e
  item := fun A E s k Q hk ⟨a, b⟩ q => wpAny_nextOf_list_item a b (Array.getElem?_eq_getElem hk) fun h' a' sb => by
    by_cases hl : l = i
    · subst hl
      obtain ⟨o, e, c, _⟩ := a
      obtain ⟨o', e', c', _⟩ := b
      rw [e] at e'; cases e'
      rw [c] at c'
      exact absurd c' (by decide)
    · exact q _ h' (Array.getElem?_eq_getElem hk) ⟨a', b.extBut sb.extBut hl⟩ sb
  fin := fun A E s k Q hh hk ⟨a, b⟩ q => wpAny_nextOf_list_end hh a b (Array.getElem?_eq_none hk) q
theorem sub_tup {P : Program} {w : World} {i l : Addr} (its : Array Value) : SubIt P w i [l] its.size (fun k v => its[k]? = some v) (fun k h => h.IsTupleIter i l k ∧ h.IsTuple l its) where
  frame := fun k h h' ⟨a, b⟩ kp => ⟨a.at fun o e => kp i (.inl rfl) o e, b.at fun o e => kp l (.inr (by simp)) o e⟩
  lt := fun k h ⟨⟨o, e, _⟩, _⟩ => Heap.lt_size e
  item := fun A E s k Q hk ⟨a, b⟩ q => nextOf_tup_item a b (Array.getElem?_eq_getElem hk) fun h' a' sb => by
    by_cases hl : l = i
    · subst hl
      obtain ⟨o, e, c, _⟩ := a
      obtain ⟨o', e', c', _⟩ := b
      rw [e] at e'; cases e'
      rw [c] at c'
      exact absurd c' (by decide)
    · exact q _ h' (Array.getElem?_eq_getElem hk) ⟨a', b.at fun o e => sb.extBut _ _ hl e⟩ sb
  fin := fun A E s k Q hh hk ⟨a, b⟩ q => nextOf_tup_fin hh a b (Array.getElem?_eq_none hk) q

/-- the records of a zip lie apart -/
structure ZApart (z tin tout ia ib : Addr) (fa fb : List Addr) : Prop where
  n1 : tin ≠ z
  n2 : tout ≠ z
  n3 : ia ≠ z
  n4 : ib ≠ z
  n5 : tin ≠ tout
  n6 : tin ≠ ia
  n7 : tin ≠ ib
  n8 : tout ≠ ia
  n9 : tout ≠ ib
  n10 : ia ≠ ib
  fz : ∀ b, b ∈ fa ∨ b ∈ fb → b ≠ z ∧ b ≠ tout ∧ b ≠ ia ∧ b ≠ ib
section
variable {z tin tout ia ib : Addr} {fa fb : List Addr} {n m k : Nat} {isA isB : Nat → Value → Prop} {sa sb : Nat → Heap → Prop} {a b : Value}
theorem ZApart.keepA (D : ZApart z tin tout ia ib fa fb) (SA : SubIt prog w ia fa n isA sa) {h h' : Heap} (st : sa k h) {c : Addr} (hc : c = z ∨ c = tout ∨ c = ib) (sb' : Heap.SameBut c h h') : sa k h' :=
  SA.frame k h h' st fun x hx o e => by
    refine sb'.extBut x o ?_ e
    rcases hx with rfl | hx
    · rcases hc with rfl | rfl | rfl
      · exact D.n3
      · exact Ne.symm D.n8
      · exact D.n10
    · obtain ⟨q1, q2, q3, q4⟩ := D.fz x (.inl hx)
      rcases hc with rfl | rfl | rfl
      · exact q1
      · exact q2
      · exact q4
theorem ZApart.keepB (D : ZApart z tin tout ia ib fa fb) (SB : SubIt prog w ib fb n isB sb) {h h' : Heap} (st : sb k h) {c : Addr} (hc : c = z ∨ c = tout ∨ c = ia) (sb' : Heap.SameBut c h h') : sb k h' :=
  SB.frame k h h' st fun x hx o e => by
    refine sb'.extBut x o ?_ e
    rcases hx with rfl | hx
    · rcases hc with rfl | rfl | rfl
      · exact D.n4
      · exact Ne.symm D.n9
      · exact Ne.symm D.n10
    · obtain ⟨q1, q2, q3, q4⟩ := D.fz x (.inr hx)
      rcases hc with rfl | rfl | rfl
      · exact q1
      · exact q2
      · exact q3
/-- the next pair -/
theorem zip_item {Q : Option Value → Shared → Prop} (D : ZApart z tin tout ia ib fa fb) (SA : SubIt prog w ia fa n isA sa) (SB : SubIt prog w ib fb m isB sb)
    (hz : IsZip s.heap z tin tout .none) (hi : IsPair s.heap tin (.ref ia) (.ref ib)) (ho : IsPair s.heap tout a b) (ha : sa k s.heap) (hb : sb k s.heap) (kn : k < n) (km : k < m)
    (q : ∀ x y h', isA k x → isB k y → IsZip h' z tin tout (rawInt s.heap.objs.size) → IsPair h' tout x y → sa (k + 1) h' → sb (k + 1) h' → IsPair h' s.heap.objs.size x y → h'.objs.size = s.heap.objs.size + 1 →
      (∀ c o, c ≠ z → c ≠ tout → c ≠ ia → c ≠ ib → s.heap.get? c = some o → h'.get? c = some o) → Q (some (.ref s.heap.objs.size)) { s with heap := h' }) :
    wpAny (model prog w) A (pyNext (.ref z)) Q E s := by
  have ty : s.TypeIs (.ref z) "zip" := ⟨_, hz, rfl⟩
  unfold pyNext
  refine wpAny_bind (wpAny_attempt (wpAny_callSpecial?_slot (name := Str.ofString "__next__") ty PySem.F.slot_zip_next (wpAny_call_entry PySem.F.slot_zip_next ty PySem.F.entry_zip_next ?_ (PySem.F.args_zip_next_1 _))))
  show wpAny _ _ (field (.ref z) 2 >>= _) _ _ _
  refine wpAny_bind (wpAny_field hz rfl (x := .bool false) rfl ?_)
  show wpAny _ _ (field (.ref z) 3 >>= _) _ _ _
  refine wpAny_bind (wpAny_field hz rfl (x := .ref tin) rfl ?_)
  refine wpAny_bind (wpAny_seqItems hi rfl ?_)
  show wpAny _ _ (Builtin.SmallTypes.ownedTupleIsFree (.ref z) >>= _) _ _ _
  refine wpAny_bind ?_
  unfold Builtin.SmallTypes.ownedTupleIsFree
  refine wpAny_bind (wpAny_field hz rfl (x := .none) rfl (wpAny_pure ?_))
  rw [if_pos rfl]
  refine wpAny_bind (wpAny_rule ?_)
  refine wpAny_bind (wpAny_field hz rfl (x := .ref tout) rfl ?_)
  refine wpAny_bind (wpAny_setField_rec hz (by simp) fun g1 z1 b1 => ?_)
  have z1 : IsZip g1 z tin tout .ellipsis := z1
  refine wpAny_bind ?_
  simp only [List.zipIdx_nil, List.zipIdx_cons, List.forIn_nil, List.forIn_cons]
  refine wpAny_bind (wpAny_bind (wpAny_onRaise ?_))
  show wpAny _ _ (Builtin.SmallTypes.nextOf (.ref ia) >>= _) _ _ _
  refine wpAny_bind (SA.item _ _ _ k _ kn (D.keepA SA ha (.inl rfl) b1) fun x g2 hx a2 b2 => wpAny_pure ?_)
  have o2 : IsPair g2 tout a b := b2.extBut _ _ D.n8 (b1.extBut _ _ D.n2 ho)
  refine wpAny_bind (wpAny_seqItems o2 rfl ?_)
  refine wpAny_bind (wpAny_updateSeq_pair o2 fun g3 o3 b3 => ?_)
  have o3 : IsPair g3 tout x b := o3
  refine wpAny_bind (wpAny_letGo (wpAny_pure ?_))
  refine wpAny_bind (wpAny_bind (wpAny_onRaise ?_))
  show wpAny _ _ (Builtin.SmallTypes.nextOf (.ref ib) >>= _) _ _ _
  have hb3 : sb k g3 := D.keepB SB (D.keepB SB (D.keepB SB hb (.inl rfl) b1) (.inr (.inr rfl)) b2) (.inr (.inl rfl)) b3
  refine wpAny_bind (SB.item _ _ _ k _ km hb3 fun y g4 hy a4 b4 => wpAny_pure ?_)
  have o4 : IsPair g4 tout x b := b4.extBut _ _ D.n9 o3
  refine wpAny_bind (wpAny_seqItems o4 rfl ?_)
  refine wpAny_bind (wpAny_updateSeq_pair o4 fun g5 o5 b5 => ?_)
  have o5 : IsPair g5 tout x y := o5
  refine wpAny_bind (wpAny_letGo (wpAny_pure (wpAny_pure ?_)))
  refine wpAny_bind (wpAny_seqItems o5 rfl ?_)
  refine wpAny_bind (wpAny_newTuple ?_)
  have sz : g5.objs.size = s.heap.objs.size := by rw [b5.1, b4.1, b3.1, b2.1, b1.1]
  have z5 : IsZip g5 z tin tout .ellipsis := b5.extBut _ _ (Ne.symm D.n2) (b4.extBut _ _ (Ne.symm D.n4) (b3.extBut _ _ (Ne.symm D.n2) (b2.extBut _ _ (Ne.symm D.n3) z1)))
  have kp : ∀ c o, c ≠ z → c ≠ tout → c ≠ ia → c ≠ ib → s.heap.get? c = some o → g5.get? c = some o := fun c o c1 c2 c3 c4 e =>
    b5.extBut _ _ c2 (b4.extBut _ _ c4 (b3.extBut _ _ c2 (b2.extBut _ _ c3 (b1.extBut _ _ c1 e))))
  have a5 : sa (k + 1) g5 := D.keepA SA (D.keepA SA (D.keepA SA a2 (.inr (.inl rfl)) b3) (.inr (.inr rfl)) b4) (.inr (.inl rfl)) b5
  have b5' : sb (k + 1) g5 := D.keepB SB a4 (.inr (.inl rfl)) b5
  have zlt : z < g5.objs.size := Heap.lt_size z5
  show wpAny _ _ (Builtin.SmallTypes.ownedTupleHandOut (.ref z) (.ref g5.objs.size) >>= _) _ _ _
  refine wpAny_bind ?_
  unfold Builtin.SmallTypes.ownedTupleHandOut
  have z6 : IsZip (g5.push { cls := .type "tuple", data := .seq #[x, y] }) z tin tout .ellipsis := Heap.get?_push_of_some _ z5
  refine wpAny_bind (wpAny_setField_rec z6 (by simp) fun g7 z7 b7 => ?_)
  have z7 : IsZip g7 z tin tout (rawInt g5.objs.size) := z7
  refine wpAny_setField_rec z7 (by simp) fun g8 z8 b8 => ?_
  have z8 : IsZip g8 z tin tout (rawInt g5.objs.size) := z8
  have up : ∀ c o, c ≠ z → g5.get? c = some o → g8.get? c = some o := fun c o c1 e => b8.extBut _ _ c1 (b7.extBut _ _ c1 (Heap.get?_push_of_some _ e))
  have new : IsPair g8 g5.objs.size x y := b8.extBut _ _ (Nat.ne_of_gt zlt) (b7.extBut _ _ (Nat.ne_of_gt zlt) (Heap.get?_push_size _ rfl))
  have s8 : g8.objs.size = g5.objs.size + 1 := by rw [b8.1, b7.1, Heap.size_push]
  have a8 : sa (k + 1) g8 := SA.frame _ _ _ a5 fun c hc o e => up c o (by
    rcases hc with rfl | hc
    · exact D.n3
    · exact (D.fz c (.inl hc)).1) e
  have b8' : sb (k + 1) g8 := SB.frame _ _ _ b5' fun c hc o e => up c o (by
    rcases hc with rfl | hc
    · exact D.n4
    · exact (D.fz c (.inr hc)).1) e
  rw [sz] at z8 new s8
  refine wpAny_pure ⟨_, rfl, wpAny_pure ?_⟩
  show Q (some (.ref g5.objs.size)) _
  rw [sz]
  exact q x y g8 hx hy z8 (up _ _ D.n2 o5) a8 b8' new s8 fun c o c1 c2 c3 c4 e => up c o c1 (kp c o c1 c2 c3 c4 e)
/-- no pair more -/
theorem zip_fin {Q : Option Value → Shared → Prop} (hh : A.handled = none) (D : ZApart z tin tout ia ib fa fb) (SA : SubIt prog w ia fa n isA sa) (SB : SubIt prog w ib fb m isB sb)
    (hz : IsZip s.heap z tin tout .none) (hi : IsPair s.heap tin (.ref ia) (.ref ib)) (ho : IsPair s.heap tout a b) (ha : sa k s.heap) (hb : sb k s.heap) (kn : n ≤ k ∨ m ≤ k)
    (q : ∀ h', (∀ c o, c ≠ z → c ≠ tout → c ≠ ia → c ≠ ib → s.heap.get? c = some o → h'.get? c = some o) → Q none { s with heap := h' }) :
    wpAny (model prog w) A (pyNext (.ref z)) Q E s := by
  have ty : s.TypeIs (.ref z) "zip" := ⟨_, hz, rfl⟩
  unfold pyNext
  refine wpAny_bind (wpAny_attempt (wpAny_callSpecial?_slot (name := Str.ofString "__next__") ty PySem.F.slot_zip_next (wpAny_call_entry PySem.F.slot_zip_next ty PySem.F.entry_zip_next ?_ (PySem.F.args_zip_next_1 _))))
  have last : ∀ (h' : Heap) (e : Addr), (∀ c o, c ≠ z → c ≠ tout → c ≠ ia → c ≠ ib → s.heap.get? c = some o → h'.get? c = some o) → (∃ o, h'.get? e = some o ∧ o.cls = .type "StopIteration") →
      wpAny (model prog w) A (do if (← isInstance (.ref e) (.type "StopIteration")) = true then pure (none : Option Value) else throw (Value.ref e)) Q E { s with heap := h' } := fun h' e kp ⟨o, e1, c1⟩ =>
    wpAny_bind (wpAny_isInstance (T := "StopIteration") (b := true) ⟨o, e1, c1⟩ isSubtype_stop (wpAny_pure (q h' kp)))
  show wpAny _ _ (field (.ref z) 2 >>= _) _ _ _
  refine wpAny_bind (wpAny_field hz rfl (x := .bool false) rfl ?_)
  show wpAny _ _ (field (.ref z) 3 >>= _) _ _ _
  refine wpAny_bind (wpAny_field hz rfl (x := .ref tin) rfl ?_)
  refine wpAny_bind (wpAny_seqItems hi rfl ?_)
  show wpAny _ _ (Builtin.SmallTypes.ownedTupleIsFree (.ref z) >>= _) _ _ _
  refine wpAny_bind ?_
  unfold Builtin.SmallTypes.ownedTupleIsFree
  refine wpAny_bind (wpAny_field hz rfl (x := .none) rfl (wpAny_pure ?_))
  rw [if_pos rfl]
  refine wpAny_bind (wpAny_rule ?_)
  refine wpAny_bind (wpAny_field hz rfl (x := .ref tout) rfl ?_)
  refine wpAny_bind (wpAny_setField_rec hz (by simp) fun g1 z1 b1 => ?_)
  have z1 : IsZip g1 z tin tout .ellipsis := z1
  refine wpAny_bind ?_
  simp only [List.zipIdx_nil, List.zipIdx_cons, List.forIn_nil, List.forIn_cons]
  refine wpAny_bind (wpAny_bind (wpAny_onRaise ?_))
  show wpAny _ _ (Builtin.SmallTypes.nextOf (.ref ia) >>= _) _ _ _
  by_cases ka : n ≤ k
  · refine wpAny_bind (SA.fin A.in1 _ _ k _ (by first | exact hh | simpa using hh) ka (D.keepA SA ha (.inl rfl) b1) fun g2 e x2 he => ?_)
    obtain ⟨oe, e1, c1⟩ := he
    have z2 : IsZip g2 z tin tout .ellipsis := x2 _ _ (Ne.symm D.n3) z1
    have ez : e ≠ z := fun x => by subst x; rw [z2] at e1; cases e1; simp at c1
    exact wpAny_setField_rec z2 (by simp) fun g3 _ b3 => last g3 e (fun c o c1 _ c3 _ x => b3.extBut _ _ c1 (x2 _ _ c3 (b1.extBut _ _ c1 x))) ⟨oe, b3.extBut _ _ ez e1, c1⟩
  · have kb : m ≤ k := by rcases kn with h | h; exact absurd h ka; exact h
    refine wpAny_bind (SA.item _ _ _ k _ (Nat.lt_of_not_le ka) (D.keepA SA ha (.inl rfl) b1) fun x g2 hx a2 b2 => wpAny_pure ?_)
    have o2 : IsPair g2 tout a b := b2.extBut _ _ D.n8 (b1.extBut _ _ D.n2 ho)
    refine wpAny_bind (wpAny_seqItems o2 rfl ?_)
    refine wpAny_bind (wpAny_updateSeq_pair o2 fun g3 o3 b3 => ?_)
    have o3 : IsPair g3 tout x b := o3
    refine wpAny_bind (wpAny_letGo (wpAny_pure ?_))
    refine wpAny_bind (wpAny_bind (wpAny_onRaise ?_))
    show wpAny _ _ (Builtin.SmallTypes.nextOf (.ref ib) >>= _) _ _ _
    have hb3 : sb k g3 := D.keepB SB (D.keepB SB (D.keepB SB hb (.inl rfl) b1) (.inr (.inr rfl)) b2) (.inr (.inl rfl)) b3
    refine wpAny_bind (SB.fin A.in1 _ _ k _ (by first | exact hh | simpa using hh) kb hb3 fun g4 e x4 he => ?_)
    obtain ⟨oe, e1, c1⟩ := he
    have z4 : IsZip g4 z tin tout .ellipsis := x4 _ _ (Ne.symm D.n4) (b3.extBut _ _ (Ne.symm D.n2) (b2.extBut _ _ (Ne.symm D.n3) z1))
    have ez : e ≠ z := fun x => by subst x; rw [z4] at e1; cases e1; simp at c1
    exact wpAny_setField_rec z4 (by simp) fun g5 _ b5 => last g5 e (fun c o c1 c2 c3 c4 x => b5.extBut _ _ c1 (x4 _ _ c4 (b3.extBut _ _ c2 (b2.extBut _ _ c3 (b1.extBut _ _ c1 x))))) ⟨oe, b5.extBut _ _ ez e1, c1⟩
end
end
end L2

set_option Elab.async false
set_option linter.all false
set_option maxRecDepth 100000
namespace L2
open PySem PySem.Spec PyProof.Rows
/-! records of ours have turned, and perhaps one tuple is new -/
section
variable {X : Cx} {pins : List (Addr × Obj)} {σ : St} {H : Hp} {s : Shared} {h' : Heap}
theorem Inv.turnedL {fp : List Addr} (I : Inv X pins σ H s) (hf : ∀ b ∈ fp, FpOk X pins H b) (k : ∀ b o, b ∉ fp → s.heap.get? b = some o → h'.get? b = some o) : Inv X pins σ H { s with heap := h' } := by
  have nit : ∀ b u, H b = some u → b ∉ fp := fun b u e z => by rw [(hf b z).1] at e; cases e
  refine I.step (g' := s.gens) (d' := s.drawn) (t' := s.toks) (ch := fp) (fun b hb => ?_) (fun b o _ _ hc e _ => k b o hc e) (fun b o _ _ hc e _ => ⟨o.slots, k b o hc e⟩) (fun _ _ _ _ n => n)
    (fun b o hc e => ⟨o, k b o hc e⟩) (fun _ _ e => e) (fun _ _ _ e => e) (fun b ps e => ⟨#[], by rw [e]; simp⟩) (fun m hm => ?_) (fun b u e => ?_) I.bare
  · obtain ⟨_, f1, _, f3, f4, f5⟩ := hf b hb
    exact ⟨f3, f1, f4, f5⟩
  · obtain ⟨o, es, ep, ho, r⟩ := hm
    exact ⟨o, es, ep, k _ o (fun z => (hf _ z).2.1 rfl) ho, r⟩
  · refine (I.hok b u e).stay (fun c v hc q => k c v ?_ q) (fun _ q => q) fun _ _ q => q
    rcases hc with z | z
    · rw [z]; exact nit b u e
    · exact nit c _ z
theorem Inv.yielded {fp : List Addr} {p : Addr} {vs : List V} (I : Inv X pins σ H s) (hf : ∀ b ∈ fp, FpOk X pins H b) (k : ∀ b o, b ∉ fp → s.heap.get? b = some o → h'.get? b = some o) (hp : s.heap.objs.size ≤ p)
    (new : ObjOk X.prog X.w (upd H p (.tup vs)) h' p (.tup vs)) : Inv X pins σ (upd H p (.tup vs)) { s with heap := h' } := by
  have nit : ∀ b u, H b = some u → b ∉ fp := fun b u e z => by rw [(hf b z).1] at e; cases e
  have hn : H p = none := I.hok.fresh hp
  refine I.step (g' := s.gens) (d' := s.drawn) (t' := s.toks) (ch := fp) (fun b hb => ?_) (fun b o _ _ hc e _ => k b o hc e) (fun b o _ _ hc e _ => ⟨o.slots, k b o hc e⟩) (fun b o _ e n => ?_)
    (fun b o hc e => ⟨o, k b o hc e⟩) (fun b xs e => ?_) (fun b o u e => ?_) (fun b ps e => ⟨#[], ?_⟩) (fun m hm => ?_) (fun b u e => ?_) I.bare
  · obtain ⟨_, f1, _, f3, f4, f5⟩ := hf b hb
    exact ⟨f3, f1, f4, f5⟩
  · rw [upd_ne (Nat.ne_of_lt (Nat.lt_of_lt_of_le (Heap.lt_size e) hp))]; exact n
  · rw [upd_ne (ne_of_none e hn)]; exact e
  · rw [upd_ne (ne_of_none e hn)]; exact e
  · rw [upd_ne (ne_of_none e hn), e]; simp
  · obtain ⟨o, es, ep, ho, r⟩ := hm
    exact ⟨o, es, ep, k _ o (fun z => (hf _ z).2.1 rfl) ho, r⟩
  · by_cases hb : b = p
    · subst hb; rw [upd_same] at e; cases e; exact new
    · rw [upd_ne hb] at e
      refine (I.hok b u e).stay (fun c v hc q => k c v ?_ q) (fun c q => by rw [upd_ne (ne_of_none q hn)]; exact q) fun c xs q => by rw [upd_ne (ne_of_none q hn)]; exact q
      rcases hc with z | z
      · rw [z]; exact nit b u e
      · exact nit c _ z
end
/-! what zip walks: a list or a tuple -/
inductive Src where
  | l (a : Addr)
  | t (a : Addr)
@[reducible] def Src.ad : Src → Addr
  | .l a => a
  | .t a => a
def Src.sq (K : PySem.W.Frag) (H : Hp) : Src → List V → Prop
  | .l a => SqL K H a
  | .t a => SqT K H a
def Src.nm : Src → String
  | .l _ => "list_iterator"
  | .t _ => "tuple_iterator"
def Src.ok (h : Heap) (its : Array Value) : Src → Prop
  | .l a => h.IsList a its
  | .t a => h.IsTuple a its
def Src.it (h : Heap) (i : Addr) (k : Nat) : Src → Prop
  | .l a => h.IsListIter i a k
  | .t a => h.IsTupleIter i a k
theorem Src.of (S : Src) {X : Cx} {pins : List (Addr × Obj)} {σ : St} {H : Hp} {s : Shared} {xs : List V} (I : Inv X pins σ H s) (h : S.sq X.K H xs) : ∃ its : List Value, Vals xs its ∧ S.ok s.heap its.toArray ∧ xs.length ≤ sizeLine := by
  cases S with
  | l a => obtain ⟨its, r, p, z⟩ := I.list h; exact ⟨its, r, p.isList, z⟩
  | t a => obtain ⟨its, r, p, z⟩ := I.tuple h; exact ⟨its, r, (show s.heap.IsTuple a its.toArray from p), z⟩
theorem Src.inj (S : Src) {X : Cx} {pins : List (Addr × Obj)} {σ : St} {H : Hp} {s : Shared} {xs ys : List V} (I : Inv X pins σ H s) (h : S.sq X.K H xs) (h' : S.sq X.K H ys) : xs = ys := by
  cases S with
  | l a => exact I.list_inj h h'
  | t a => exact I.tuple_inj h h'
theorem Src.lt (S : Src) {h : Heap} {its : Array Value} (p : S.ok h its) : S.ad < h.objs.size := by
  cases S with
  | l a => obtain ⟨o, e, _⟩ := p; exact Heap.lt_size e
  | t a => obtain ⟨o, e, _⟩ := p; exact Heap.lt_size e
theorem Src.okAt (S : Src) {h h' : Heap} {its : Array Value} (p : S.ok h its) (k : ∀ o, h.get? S.ad = some o → h'.get? S.ad = some o) : S.ok h' its := by
  cases S with
  | l a => exact Heap.IsList.at p k
  | t a => exact Heap.IsTuple.at p k
theorem Src.itAt (S : Src) {h h' : Heap} {i : Addr} {n : Nat} (p : S.it h i n) (k : ∀ o, h.get? i = some o → h'.get? i = some o) : S.it h' i n := by
  cases S with
  | l a => exact Heap.IsListIter.at p k
  | t a => exact Heap.IsTupleIter.at p k
theorem Src.itOb (S : Src) {h : Heap} {i : Addr} {n : Nat} (p : S.it h i n) : ∃ o, h.get? i = some o ∧ ∀ v, o.data ≠ .cell v := by
  cases S with
  | l a => obtain ⟨o, e, c, d⟩ := p; exact ⟨o, e, fun v z => by rw [d] at z; cases z⟩
  | t a => obtain ⟨o, e, c, d⟩ := p; exact ⟨o, e, fun v z => by rw [d] at z; cases z⟩
theorem Src.sub (S : Src) {P : Program} {w : World} {i : Addr} (its : Array Value) : SubIt P w i [S.ad] its.size (fun k v => its[k]? = some v) (fun k h => S.it h i k ∧ S.ok h its) := by
  cases S with
  | l a => exact sub_list its
  | t a => exact sub_tup its
def Src.obj (S : Src) : Obj := { cls := .type S.nm, data := .fields #[.ref S.ad, .int 0 0] }
theorem Src.pyIter (S : Src) {prog : Program} {w : World} {A : Around} {E : Value → Shared → Prop} {s : Shared} {its : Array Value} {Q : Value → Shared → Prop} (p : S.ok s.heap its)
    (q : Q (.ref s.heap.objs.size) { s with heap := s.heap.push S.obj }) : wpAny (model prog w) A (pyIter (.ref S.ad)) Q E s := by
  cases S with
  | l a => exact wpAny_pyIter_list p q
  | t a => exact wpAny_pyIter_tuple p q
theorem Src.new (S : Src) {h : Heap} : S.it (h.push S.obj) h.objs.size 0 := by
  cases S with
  | l a => exact ⟨_, Heap.get?_push_size _ rfl, rfl, rfl⟩
  | t a => exact ⟨_, Heap.get?_push_size _ rfl, rfl, rfl⟩
@[reducible] def zh1 (h : Heap) (A : Src) : Heap := h.push A.obj
@[reducible] def zh2 (h : Heap) (A B : Src) : Heap := (zh1 h A).push B.obj
@[reducible] def zh3 (h : Heap) (A B : Src) : Heap := (zh2 h A B).push { cls := .type "tuple", data := .seq #[.ref h.objs.size, .ref (zh1 h A).objs.size] }
@[reducible] def zh4 (h : Heap) (A B : Src) : Heap := (zh3 h A B).push { cls := .type "tuple", data := .seq #[.none, .none] }
@[reducible] def zh5 (h : Heap) (A B : Src) : Heap := (zh4 h A B).push { cls := .type "zip", data := .fields #[.none, .bool false, .bool false, .ref (zh2 h A B).objs.size, .ref (zh3 h A B).objs.size] }
theorem zip_new (A B : Src) (xs ys : Array Value) : Meets (Builtin.«zip.__new__» ⟨[.type "zip", .ref A.ad, .ref B.ad], []⟩) (fun _ R s => A.ok s.heap xs ∧ B.ok s.heap ys ∧ R (.ok (.ret (.ref (zh4 s.heap A B).objs.size))) { s with heap := zh5 s.heap A B }) :=
  .of_wp fun prog w A' R s h => by
    obtain ⟨hp, g, d, tk, os⟩ := s; obtain ⟨h1, h2, q⟩ := h
    have hs := sub_zip
    have k1 : A.ok (Shared.heap ⟨hp, g, d, tk, os⟩) xs := h1
    have k2 : B.ok (Shared.heap ⟨hp.push A.obj, g, d, tk, os⟩) ys := B.okAt h2 fun o e => Heap.get?_push_of_some _ e
    wp_walk using A.pyIter k1, B.pyIter k2
    exact ⟨_, rfl, q⟩
end L2

set_option Elab.async false
set_option linter.all false
set_option maxRecDepth 100000
namespace L2
open PySem PySem.Spec PyProof.Rows
section
variable {prog : Program} {w : World} {A : Around} {E : Value → Shared → Prop} {s : Shared}
theorem zip_call {S T : Src} {xs ys : Array Value} {Q : Value → Shared → Prop} (p1 : S.ok s.heap xs) (p2 : T.ok s.heap ys)
    (q : ∀ h', IsZip h' (s.heap.objs.size + 4) (s.heap.objs.size + 2) (s.heap.objs.size + 3) .none → IsPair h' (s.heap.objs.size + 2) (.ref s.heap.objs.size) (.ref (s.heap.objs.size + 1)) →
      IsPair h' (s.heap.objs.size + 3) .none .none → S.it h' s.heap.objs.size 0 → T.it h' (s.heap.objs.size + 1) 0 → (∀ c o, s.heap.get? c = some o → h'.get? c = some o) → Q (.ref (s.heap.objs.size + 4)) { s with heap := h' }) :
    wpAny (model prog w) A (call (.type "zip") [.ref S.ad, .ref T.ad]) Q E s := by
  refine callType_new PySem.F.called_zip (by decide) (PySem.F.typeCall_zip_2 _ _) (PySem.F.newCall_zip_2 _ _) (fun obj => PySem.F.args_object_init_3 obj _ _) PySem.F.entry_zip_new (zip_new S T xs ys) ⟨p1, p2, ?_⟩
  have z1 : (zh1 s.heap S).objs.size = s.heap.objs.size + 1 := Heap.size_push ..
  have z2 : (zh2 s.heap S T).objs.size = s.heap.objs.size + 2 := by rw [Heap.size_push, z1]
  have z3 : (zh3 s.heap S T).objs.size = s.heap.objs.size + 3 := by rw [Heap.size_push, z2]
  have z4 : (zh4 s.heap S T).objs.size = s.heap.objs.size + 4 := by rw [Heap.size_push, z3]
  have g5 : (zh5 s.heap S T).get? (zh4 s.heap S T).objs.size = some _ := Heap.get?_push_size _ rfl
  have g4 : (zh5 s.heap S T).get? (zh3 s.heap S T).objs.size = some _ := Heap.get?_push_of_some _ (Heap.get?_push_size _ rfl)
  have g3 : (zh5 s.heap S T).get? (zh2 s.heap S T).objs.size = some _ := Heap.get?_push_of_some _ (Heap.get?_push_of_some _ (Heap.get?_push_size _ rfl))
  have up : ∀ c o, (zh2 s.heap S T).get? c = some o → (zh5 s.heap S T).get? c = some o := fun c o e => Heap.get?_push_of_some _ (Heap.get?_push_of_some _ (Heap.get?_push_of_some _ e))
  have t2 : T.it (zh5 s.heap S T) (zh1 s.heap S).objs.size 0 := T.itAt (T.new (h := zh1 s.heap S)) fun o e => up _ o e
  have t1 : S.it (zh5 s.heap S T) s.heap.objs.size 0 := S.itAt (S.new (h := s.heap)) fun o e => up _ o (Heap.get?_push_of_some _ e)
  show _ ∧ _
  rw [z2, z3, z4] at g5
  rw [z1, z2] at g3
  rw [z3] at g4
  rw [z1] at t2
  rw [z4]
  exact ⟨⟨_, g5, rfl⟩, q _ g5 g3 g4 t1 t2 fun c o e => up _ _ (Heap.get?_push_of_some _ (Heap.get?_push_of_some _ e))⟩
end
def Itz (K : PySem.W.Frag) (S T : Src) : It :=
  ⟨fun i H => ∃ xs ys x y, S.sq K H xs ∧ T.sq K H ys ∧ xs[i]? = some x ∧ ys[i]? = some y,
   fun i H v H' => ∃ p x y, v = .ref p ∧ H p = none ∧ H' = upd H p (.tup [x, y]) ∧ (∀ xs, S.sq K H xs → xs[i]? = some x) ∧ ∀ ys, T.sq K H ys → ys[i]? = some y,
   fun i H => ∃ xs ys, S.sq K H xs ∧ T.sq K H ys ∧ (xs.length ≤ i ∨ ys.length ≤ i)⟩
theorem zapart {n : Nat} {S T : Src} (h1 : S.ad < n) (h2 : T.ad < n) : ZApart (n + 4) (n + 2) (n + 3) n (n + 1) [S.ad] [T.ad] where
  n1 := by (show @Ne Nat _ _; omega)
  n2 := by (show @Ne Nat _ _; omega)
  n3 := by (show @Ne Nat _ _; omega)
  n4 := by (show @Ne Nat _ _; omega)
  n5 := by (show @Ne Nat _ _; omega)
  n6 := by (show @Ne Nat _ _; omega)
  n7 := by (show @Ne Nat _ _; omega)
  n8 := by (show @Ne Nat _ _; omega)
  n9 := by (show @Ne Nat _ _; omega)
  n10 := by (show @Ne Nat _ _; omega)
  fz := fun b hb => by
    have hl : (b : Nat) < n := by
      rcases hb with z | z
      · rw [List.mem_singleton.mp z]; exact h1
      · rw [List.mem_singleton.mp z]; exact h2
    exact ⟨fun e => by subst e; exact absurd hl (by show ¬ @LT.lt Nat _ _ _; omega), fun e => by subst e; exact absurd hl (by show ¬ @LT.lt Nat _ _ _; omega), fun e => by subst e; exact absurd hl (by show ¬ @LT.lt Nat _ _ _; omega), fun e => by subst e; exact absurd hl (by show ¬ @LT.lt Nat _ _ _; omega)⟩
theorem turn_zip {P : Program} {w : World} {K : PySem.W.Frag} {elts : List Expr} {x1} {pos : Pos} (S T : Src) (n : Nat) (h1 : S.ad < n) (h2 : T.ad < n) :
    Turn P w K (.Tuple elts x1 pos) (Itz K S T) [n + 4, n + 2, n + 3, n, n + 1] (n + 4) (fun i h => IsZip h (n + 4) (n + 2) (n + 3) .none ∧ IsPair h (n + 2) (.ref n) (.ref (n + 1)) ∧ (∃ a b, IsPair h (n + 3) a b) ∧ S.it h n i ∧ T.it h (n + 1) i) where
  mem := by simp
  obj := fun i h ⟨z, a, ⟨x, y, b⟩, c, d⟩ q hq => by
    simp only [List.mem_cons, List.not_mem_nil, or_false] at hq
    rcases hq with rfl | rfl | rfl | rfl | rfl
    · exact ⟨_, z, fun v e => nomatch (show Data.fields _ = Data.cell v from e)⟩
    · exact ⟨_, a, fun v e => nomatch (show Data.seq _ _ = Data.cell v from e)⟩
    · exact ⟨_, b, fun v e => nomatch (show Data.seq _ _ = Data.cell v from e)⟩
    · exact S.itOb c
    · exact T.itOb d
  keep := fun i h h' ⟨z, a, ⟨x, y, b⟩, c, d⟩ k => ⟨k _ (by simp) _ z, k _ (by simp) _ a, ⟨x, y, k _ (by simp) _ b⟩, S.itAt c fun o e => k _ (by simp) o e, T.itAt d fun o e => k _ (by simp) o e⟩
  item := by
    intro X hP hw hK hc i pins s σ H E I hf ⟨z, a, ⟨u, v, b⟩, c, d⟩ ⟨xs, ys, x, y, hx, hy, ex, ey⟩
    subst hP hw hK
    obtain ⟨its, r1, o1, _⟩ := S.of I hx
    obtain ⟨jts, r2, o2, _⟩ := T.of I hy
    obtain ⟨u1, e1, ru1⟩ := r1.get ex
    obtain ⟨u2, e2, ru2⟩ := r2.get ey
    have l1 := (List.getElem?_eq_some_iff.mp e1).1
    have l2 := (List.getElem?_eq_some_iff.mp e2).1
    refine zip_item (zapart h1 h2) (S.sub (P := X.prog) (w := X.w) its.toArray) (T.sub (P := X.prog) (w := X.w) jts.toArray) z a b ⟨c, o1⟩ ⟨d, o2⟩ (by simpa using l1) (by simpa using l2) fun x' y' h' hx' hy' z' to' ⟨c', _⟩ ⟨d', _⟩ new sz kp => ?_
    have hx1 : x' = u1 := by simp [e1] at hx'; exact hx'.symm
    have hy1 : y' = u2 := by simp [e2] at hy'; exact hy'.symm
    subst hx1 hy1
    refine ⟨_, rfl, wpAny_letOwnedTupleGo_zip z' fun h2' z2 sb => ?_⟩
    have hlt : n + 4 < s.heap.objs.size := Heap.lt_size z
    have up : ∀ q o, q ≠ n + 4 → h'.get? q = some o → h2'.get? q = some o := fun q o hq e => sb.extBut _ _ hq e
    have I1 : Inv X pins σ (upd H s.heap.objs.size (.tup [x, y])) { s with heap := h2' } := by
      refine I.yielded hf (fun q o hq e => up q o (fun z => hq (by simp [z])) (kp q o (fun z => hq (by simp [z])) (fun z => hq (by simp [z])) (fun z => hq (by simp [z])) (fun z => hq (by simp [z])) e)) (Nat.le_refl _) ?_
      exact ⟨show 2 ≤ sizeLine by decide, [x', y'], .cons ru1 (.cons ru2 .nil), ⟨_, up _ _ (by (show @Ne Nat _ _; omega)) new, rfl, _, rfl⟩⟩
    refine ⟨.ref s.heap.objs.size, _, I1, rfl, ⟨_, x, y, rfl, I.hok.fresh (Nat.le_refl _), rfl, fun zs hz => by rw [S.inj I hz hx]; exact ex, fun zs hz => by rw [T.inj I hz hy]; exact ey⟩, ⟨z2, up _ _ (by (show @Ne Nat _ _; omega)) (kp _ _ (by (show @Ne Nat _ _; omega)) (by (show @Ne Nat _ _; omega)) (by (show @Ne Nat _ _; omega)) (by (show @Ne Nat _ _; omega)) a), ⟨x', y', up _ _ (by (show @Ne Nat _ _; omega)) to'⟩, S.itAt c' fun o e => up _ o (by (show @Ne Nat _ _; omega)) e, T.itAt d' fun o e => up _ o (by (show @Ne Nat _ _; omega)) e⟩, fun q hq => ?_⟩
    rw [upd_ne]
    · exact (hf q hq).1
    · simp only [List.mem_cons, List.not_mem_nil, or_false] at hq
      rcases hq with rfl | rfl | rfl | rfl | rfl <;> (show @Ne Nat _ _; omega)
  done := by
    intro X hP hw hK hc i pins s σ H E I hf ⟨z, a, ⟨u, v, b⟩, c, d⟩ ⟨xs, ys, hx, hy, hl⟩
    subst hP hw hK
    obtain ⟨its, r1, o1, _⟩ := S.of I hx
    obtain ⟨jts, r2, o2, _⟩ := T.of I hy
    have q1 := r1.length
    have q2 := r2.length
    refine zip_fin (I.ok.hd hc) (zapart h1 h2) (S.sub (P := X.prog) (w := X.w) its.toArray) (T.sub (P := X.prog) (w := X.w) jts.toArray) z a b ⟨c, o1⟩ ⟨d, o2⟩ (by simp only [List.size_toArray]; omega) fun h' kp => ⟨rfl, I.turnedL hf fun q o hq e => kp q o (fun z => hq (by simp [z])) (fun z => hq (by simp [z])) (fun z => hq (by simp [z])) (fun z => hq (by simp [z])) e⟩
  self := fun _ _ _ _ _ ⟨z, _⟩ q => wpAny_pyIter_zip z q
theorem boot_zip' : bootBuiltins "zip" = some (.type "zip") := by decide +kernel

@[simp] def zsItems : D → Option (List D)
  | .lst xs => some xs
  | .tup xs => some xs
  | _ => none
theorem DenQ.src {K : PySem.W.Frag} {M N : Fb} {H : Hp} {d : D} {v : V} {xs : List D} (h : DenQ K M N H d v) (e : zsItems d = some xs) :
    ∃ (S : Src) (vs : List V), v = .ref S.ad ∧ DenL K N H xs vs ∧ ∀ N2 H2, Step M N N2 H H2 → S.sq K H2 vs := by
  cases d with
  | lst ys =>
    cases e
    obtain ⟨a, vs, e1, hr, hd⟩ := h
    refine ⟨.l a, vs, e1, hd, fun N2 H2 S => ?_⟩
    rcases hr with ⟨hn, hr⟩ | hr
    · exact .inl (hr.step S (by rcases hn with z | z; exact .inl z; exact .inr (.inl z)))
    · exact hr.sq
  | tup ys =>
    cases e
    simp only [DenQ, Den] at h
    obtain ⟨a, vs, e1, hr, hd⟩ := h
    exact ⟨.t a, vs, e1, hd, fun N2 H2 S => hr.step S⟩
  | _ => cases e
@[simp] def zipO (f g : VE → Option D) : VE → Option (List D) := fun ρ => match (f ρ).bind zsItems, (g ρ).bind zsItems with
  | some xs, some ys => some (List.zipWith (fun x y => D.tup [x, y]) xs ys)
  | _, _ => none
theorem zip_ok {K : PySem.W.Frag} {M N : Fb} {H : Hp} {S T : Src} {xs ys : List D} {us vs : List V} (h1 : DenL K N H xs us) (h2 : DenL K N H ys vs) (q1 : ∀ N2 H2, Step M N N2 H H2 → S.sq K H2 us) (q2 : ∀ N2 H2, Step M N N2 H H2 → T.sq K H2 vs) :
    ItOk K M N H (Itz K S T) (List.zipWith (fun x y => D.tup [x, y]) xs ys) := fun N2 H2 St i => by
  have s1 := q1 _ _ St
  have s2 := q2 _ _ St
  have d1 := DenL.step St _ _ h1
  have d2 := DenL.step St _ _ h2
  refine ⟨fun d he => ?_, fun he => ⟨us, vs, s1, s2, ?_⟩⟩
  · rw [List.getElem?_zipWith] at he
    cases ex : xs[i]? with
    | none => rw [ex] at he; cases he
    | some x =>
      cases ey : ys[i]? with
      | none => rw [ex, ey] at he; cases he
      | some y =>
        rw [ex, ey] at he; cases he
        obtain ⟨u, eu, du⟩ := d1.get ex
        obtain ⟨v, ev, dv⟩ := d2.get ey
        refine ⟨⟨us, vs, u, v, s1, s2, eu, ev⟩, fun z H3 ⟨p, u', v', e1, hp, e3, w1, w2⟩ => ?_⟩
        have := w1 us s1; rw [eu] at this; cases this
        have := w2 vs s2; rw [ev] at this; cases this
        subst e1 e3
        exact ⟨same_upd hp, den_newT hp (DenL.cons du (DenL.cons dv DenL.nil))⟩
  · have l1 := h1.length
    have l2 := h2.length
    simp only [List.length_zipWith] at he
    omega
section
variable {X : Cx} {M : Fb} {H0 : Hp} {f g : VE → Option D} {a b : Expr} {elts : List Expr} {p pos tpos : Pos}
theorem vi_zip {x1} (hg : Gl X "zip") (hm : X.mg "zip" = none) (ha : PE X a (tQ X.K M H0 f)) (hb : PE X b (tQ X.K M H0 g)) (hs : starEach [a, b] X.env = [(false, eval a X.env), (false, eval b X.env)] := by rfl) (hs2 : starEach [b] X.env = [(false, eval b X.env)] := by rfl) (hs3 : starEach [] X.env = [] := by rfl) :
    PI X (.Tuple elts x1 tpos) (.Call (.Name "zip" p) [a, b] [] pos) (tI X.K M H0 (zipO f g)) := by
  intro pins s σ H Q I ⟨ρ, ds, R, e, q⟩
  unfold zipO at e
  split at e
  · next xs ys ex ey =>
    cases e
    cases hf : f ρ with
    | none => rw [hf] at ex; cases ex
    | some d1 =>
      cases hgv : g ρ with
      | none => rw [hgv] at ey; cases ey
      | some d2 =>
        rw [hf] at ex
        rw [hgv] at ey
        have PA2 := pa_cons ha (pa_cons hb pa_nil (by rw [hs2, hs3])) (by rw [hs, hs2])
        refine Call_ (ld_blt I hg hm boot_zip' (PyProof.Rows.callWith_type1 (thn (PA2 pos pins s σ H (fun vs H2 => ∃ S T us ws, vs = [.ref (Src.ad S), .ref (Src.ad T)] ∧ Same H H2 ∧ DenL X.K (Nf M ρ σ) H2 xs us ∧ DenL X.K (Nf M ρ σ) H2 ys ws ∧ (∀ N2 H3, Step M (Nf M ρ σ) N2 H2 H3 → S.sq X.K H3 us) ∧ ∀ N2 H3, Step M (Nf M ρ σ) N2 H2 H3 → T.sq X.K H3 ws) I ?_) fun us s1 ⟨vs, H1, I1, r1, q1⟩ => ?_) (by rw [hs, hs2]) (by rw [hs2]; rfl)))
        · refine ⟨ρ, d1, R, hf, fun v1 H1 z1 q1 => ⟨ρ, d2, R.st z1, hgv, fun v2 H2 z2 q2 => ?_⟩⟩
          obtain ⟨S, us, e1, dl1, k1⟩ := q1.src ex
          obtain ⟨T, ws, e2, dl2, k2⟩ := q2.src ey
          exact ⟨S, T, us, ws, by rw [e1, e2], z1.trans z2, dl1.same z2, dl2, fun N2 H3 St => k1 _ _ ((Step.of_same z2).trans St), k2⟩
        · obtain ⟨S, T, us', ws, e1, z, dl1, dl2, k1, k2⟩ := q1
          subst e1
          cases r1 with
          | cons r rr =>
            cases rr with
            | cons r' rr =>
              cases rr
              cases r
              cases r'
              obtain ⟨its, v1, o1, _⟩ := S.of I1 (k1 _ _ Step.refl)
              obtain ⟨jts, v2, o2, _⟩ := T.of I1 (k2 _ _ Step.refl)
              refine zip_call o1 o2 fun h' a1 a2 a3 a4 a5 kp => wpAny_pyIter_zip a1 ?_
              refine ⟨_, _, _, _, H1, rfl, I1.kept (t' := s1.toks) kp, turn_zip S T s1.heap.objs.size (S.lt o1) (T.lt o2), ⟨a1, a2, ⟨_, _, a3⟩, a4, a5⟩, fun b hb => ?_, q _ _ z (zip_ok dl1 dl2 k1 k2)⟩
              have hl : s1.heap.objs.size ≤ b := by
                simp only [List.mem_cons, List.not_mem_nil, or_false] at hb
                rcases hb with rfl | rfl | rfl | rfl | rfl <;> (show @LE.le Nat _ _ _; omega)
              exact I1.fpOk hl (I1.hok.fresh hl)
  · cases e
theorem j_vi_zip {x1} (hg : Gl X "zip") (hm : X.mg "zip" = none) (ha : JE X a (tQ X.K M H0 f)) (hb : JE X b (tQ X.K M H0 g)) (hs : starEach [a, b] X.env = [(false, eval a X.env), (false, eval b X.env)] := by rfl) (hs2 : starEach [b] X.env = [(false, eval b X.env)] := by rfl) (hs3 : starEach [] X.env = [] := by rfl) :
    JI X (.Tuple elts x1 tpos) (.Call (.Name "zip" p) [a, b] [] pos) (tI X.K M H0 (zipO f g)) := ⟨vi_zip hg hm ha.h hb.h hs hs2 hs3⟩
end
end L2

set_option Elab.async false
set_option linter.all false
set_option maxRecDepth 100000
/-! enumerate of a list or a tuple -/
namespace L2
open PySem PySem.Spec PyProof.Rows
section
variable {prog : Program} {w : World} {A : Around} {E : Value → Shared → Prop} {s : Shared}
theorem enum_new_l (l : Addr) (items : Array Value) (n : Nat) (dct : Option Addr) (sl : Array (Option Value)) (ob : Obj) (ho : ob = { cls := .type "list_iterator", data := .fields #[.ref l, .int 0 0] }) :
    Meets (Builtin.«enumerate.__new__» ⟨[.type "enumerate", .ref l], []⟩) (fun _ R s => s.heap.get? l = some { cls := .type "list", dict := dct, data := .seq items n, slots := sl } ∧
      R (.ok (.ret (.ref (s.heap.push ob).objs.size))) { s with heap := (s.heap.push ob).push { cls := .type "enumerate", data := .fields #[.none, .bool false, .ref s.heap.objs.size, rawInt 0, .none, .none] } }) := by
  subst ho; exact meets_enumerate_newL l items n dct sl
theorem enum_new_t (l : Addr) (items : Array Value) (n : Nat) (dct : Option Addr) (sl : Array (Option Value)) :
    Meets (Builtin.«enumerate.__new__» ⟨[.type "enumerate", .ref l], []⟩) (fun _ R s => s.heap.get? l = some { cls := .type "tuple", dict := dct, data := .seq items n, slots := sl } ∧
      R (.ok (.ret (.ref (s.heap.push (Src.obj (.t l))).objs.size))) { s with heap := (s.heap.push (Src.obj (.t l))).push { cls := .type "enumerate", data := .fields #[.none, .bool false, .ref s.heap.objs.size, rawInt 0, .none, .none] } }) :=
  .of_wp fun prog w A R s h => by
    obtain ⟨hp, g, d, tk, os⟩ := s; obtain ⟨e, q⟩ := h
    have hs := sub_enumerate
    have hL : Src.ok (Shared.heap ⟨hp, g, d, tk, os⟩) items (.t l) := ⟨_, e, rfl, n, rfl⟩
    have hI : ∀ {prog : Program} {w : World} {A : Around} {E : Value → Shared → Prop} {Q : Value → Shared → Prop}, Q (.ref hp.objs.size) ⟨hp.push (Src.obj (.t l)), g, d, tk, os⟩ → wpAny (model prog w) A (pyIter (.ref l)) Q E ⟨hp, g, d, tk, os⟩ := fun q => Src.pyIter (.t l) hL q
    wp_walk using AutoSeq1.wpAny_loadPart' e
    refine wpAny_stack_any fun st => wpAny_pure ?_
    split
    · rename_i c _ _ _ _ _
      cases (c == Value.type "enumerate")
      · wp_walk using AutoSeq1.wpAny_loadPart' e, hI
        exact ⟨_, rfl, q⟩
      · wp_walk using AutoSeq1.wpAny_loadPart' e, hI
        exact ⟨_, rfl, q⟩
    · wp_walk using AutoSeq1.wpAny_loadPart' e, hI
      exact ⟨_, rfl, q⟩
theorem enum_call {S : Src} {items : Array Value} {Q : Value → Shared → Prop} (p : S.ok s.heap items)
    (q : ∀ h', IsEnum h' (s.heap.objs.size + 1) s.heap.objs.size 0 .none → S.it h' s.heap.objs.size 0 → (∀ b o, s.heap.get? b = some o → h'.get? b = some o) → Q (.ref (s.heap.objs.size + 1)) { s with heap := h' }) :
    wpAny (model prog w) A (call (.type "enumerate") [.ref S.ad]) Q E s := by
  have hz : (s.heap.push S.obj).objs.size = s.heap.objs.size + 1 := Heap.size_push ..
  have he : IsEnum ((s.heap.push S.obj).push { cls := .type "enumerate", data := .fields #[.none, .bool false, .ref s.heap.objs.size, rawInt 0, .none, .none] }) (s.heap.objs.size + 1) s.heap.objs.size 0 .none := by
    have := Heap.get?_push_size (s.heap.push S.obj) (o := { cls := .type "enumerate", data := .fields #[.none, .bool false, .ref s.heap.objs.size, rawInt 0, .none, .none] }) rfl
    rw [hz] at this; exact this
  have fin : (s.TypeIs (.ref 0) "x" → True) := fun _ => trivial
  have last := q _ he (S.itAt (S.new (h := s.heap)) fun o e => Heap.get?_push_of_some _ e) fun b o e => Heap.get?_push_of_some _ (Heap.get?_push_of_some _ e)
  cases S with
  | l a =>
    obtain ⟨⟨c, dct, dt, sl⟩, hl, hc, n, hd⟩ := p
    replace hc : c = .type "list" := hc
    replace hd : dt = .seq items n := hd
    subst hc hd
    refine callType_new PySem.F.called_enumerate (by decide) (PySem.F.typeCall_enumerate_1 _) (PySem.F.newCall_enumerate_1 _) (fun obj => PySem.F.args_object_init_2 obj _) PySem.F.entry_enumerate_new (enum_new_l a items n dct sl (Src.obj (.l a)) rfl) ⟨hl, ?_⟩
    show _ ∧ _
    rw [hz]
    exact ⟨⟨_, he, rfl⟩, last⟩
  | t a =>
    obtain ⟨⟨c, dct, dt, sl⟩, hl, hc, n, hd⟩ := p
    replace hc : c = .type "tuple" := hc
    replace hd : dt = .seq items n := hd
    subst hc hd
    refine callType_new PySem.F.called_enumerate (by decide) (PySem.F.typeCall_enumerate_1 _) (PySem.F.newCall_enumerate_1 _) (fun obj => PySem.F.args_object_init_2 obj _) PySem.F.entry_enumerate_new (enum_new_t a items n dct sl) ⟨hl, ?_⟩
    show _ ∧ _
    rw [hz]
    exact ⟨⟨_, he, rfl⟩, last⟩
section
variable {e it : Addr} {fa : List Addr} {n k : Nat} {isA : Nat → Value → Prop} {sa : Nat → Heap → Prop} {old : Value}
theorem enum_item {Q : Option Value → Shared → Prop} (SA : SubIt prog w it fa n isA sa) (he : IsEnum s.heap e it k old) (ha : sa k s.heap) (kn : k < n) (hne : e ≠ it) (hfe : e ∉ fa)
    (q : ∀ x h', isA k x → IsEnumOut h' e it ((k : Int) + 1) x s.heap.objs.size → sa (k + 1) h' → h'.get? s.heap.objs.size = some { cls := .type "tuple", data := .seq #[.int k s.toks, x] } →
      (∀ b o, b ≠ e → b ≠ it → s.heap.get? b = some o → h'.get? b = some o) → Q (some (.ref s.heap.objs.size)) { s with heap := h', toks := s.toks + 1 }) :
    wpAny (model prog w) A (pyNext (.ref e)) Q E s := by
  obtain ⟨hp, g, d, tk, os⟩ := s
  have ty : Shared.TypeIs ⟨hp, g, d, tk, os⟩ (.ref e) "enumerate" := ⟨_, he, rfl⟩
  unfold pyNext
  refine wpAny_bind (wpAny_attempt (wpAny_callSpecial?_slot (name := Str.ofString "__next__") ty PySem.F.slot_enumerate_next (wpAny_call_entry PySem.F.slot_enumerate_next ty PySem.F.entry_enumerate_next ?_ (PySem.F.args_enumerate_next_1 _))))
  have fr : ∀ {h h' : Heap}, sa (k + 1) h → (∀ b o, b ≠ e → h.get? b = some o → h'.get? b = some o) → sa (k + 1) h' := fun st kp => SA.frame _ _ _ st fun b hb o x => kp b o (by
    rcases hb with rfl | hb
    · exact Ne.symm hne
    · intro z; subst z; exact hfe hb) x
  show wpAny _ _ (field (.ref e) 2 >>= _) _ _ _
  refine wpAny_bind (wpAny_field he rfl (x := .ref it) rfl ?_)
  refine wpAny_bind (SA.item _ _ _ k _ kn ha fun x h1 hx a1 s1 => ?_)
  replace s1 : Heap.SameBut it hp h1 := s1
  have e1 : IsEnum h1 e it k old := (s1.2 e hne).trans he
  show wpAny _ _ (field (.ref e) 3 >>= _) _ _ ⟨h1, g, d, tk, os⟩
  refine wpAny_bind (wpAny_field e1 rfl (x := rawInt k) rfl ?_)
  show wpAny _ _ (field (.ref e) 4 >>= _) _ _ ⟨h1, g, d, tk, os⟩
  refine wpAny_bind (wpAny_field e1 rfl (x := .none) rfl ?_)
  show wpAny _ _ (mkInt k >>= _) _ _ ⟨h1, g, d, tk, os⟩
  refine wpAny_bind (wpAny_mkInt ?_)
  show wpAny _ _ (setField (.ref e) 3 (rawInt ((k : Int) + 1)) >>= _) _ _ ⟨h1, g, d, tk + 1, os⟩
  refine wpAny_bind (wpAny_setField_rec e1 (by simp) fun h2 e2 s2 => ?_)
  replace s2 : Heap.SameBut e h1 h2 := s2
  replace e2 : IsEnum h2 e it ((k : Int) + 1) old := e2
  show wpAny _ _ (setField (.ref e) 4 .none >>= _) _ _ ⟨h2, g, d, tk + 1, os⟩
  refine wpAny_bind (wpAny_setField_rec e2 (by simp) fun h3 e3 s3 => ?_)
  replace s3 : Heap.SameBut e h2 h3 := s3
  replace e3 : IsEnum h3 e it ((k : Int) + 1) old := e3
  show wpAny _ _ (newTuple [.int k tk, x] >>= _) _ _ ⟨h3, g, d, tk + 1, os⟩
  refine wpAny_bind (wpAny_newTuple ?_)
  have sz : h3.objs.size = hp.objs.size := by rw [s3.1, s2.1, s1.1]
  have el : e < hp.objs.size := Heap.lt_size he
  have e4 : IsEnum (h3.push { cls := .type "tuple", data := .seq #[.int k tk, x] }) e it ((k : Int) + 1) old := Heap.get?_push_of_some _ e3
  have t4 : (h3.push { cls := .type "tuple", data := .seq #[.int k tk, x] }).get? hp.objs.size = some { cls := .type "tuple", data := .seq #[.int k tk, x] } := by rw [← sz]; exact Heap.get?_push_size _ rfl
  have k4 : ∀ b o, b ≠ e → b ≠ it → hp.get? b = some o → (h3.push { cls := .type "tuple", data := .seq #[.int k tk, x] }).get? b = some o := fun b o he hi hb =>
    Heap.get?_push_of_some _ (s3.extBut b o he (s2.extBut b o he (s1.extBut b o hi hb)))
  have a4 : sa (k + 1) (h3.push { cls := .type "tuple", data := .seq #[.int k tk, x] }) := fr a1 fun b o hb z => Heap.get?_push_of_some _ (s3.extBut b o hb (s2.extBut b o hb z))
  generalize (h3.push { cls := .type "tuple", data := .seq #[.int k tk, x] }) = h4 at e4 t4 k4 a4 ⊢
  show wpAny _ _ (Builtin.SmallTypes.ownedTupleIsFree (.ref e) >>= _) _ _ ⟨h4, g, d, tk + 1, os⟩
  rw [sz]
  refine wpAny_bind ?_
  unfold Builtin.SmallTypes.ownedTupleIsFree
  refine wpAny_bind (wpAny_field e4 rfl (x := .none) rfl (wpAny_pure ?_))
  rw [if_pos rfl]
  refine wpAny_bind (wpAny_rule ?_)
  refine wpAny_bind (wpAny_field e4 rfl (x := old) rfl ?_)
  refine wpAny_bind (wpAny_setField_rec e4 (by simp) fun h5 e5 s5 => ?_)
  replace s5 : Heap.SameBut e h4 h5 := s5
  replace e5 : IsEnum h5 e it ((k : Int) + 1) x := e5
  show wpAny _ _ (Builtin.SmallTypes.ownedTupleHandOut (.ref e) (.ref hp.objs.size) >>= _) _ _ ⟨h5, g, d, tk + 1, os⟩
  refine wpAny_bind ?_
  unfold Builtin.SmallTypes.ownedTupleHandOut
  refine wpAny_bind (wpAny_setField_rec e5 (by simp) fun h6 e6 s6 => ?_)
  replace s6 : Heap.SameBut e h5 h6 := s6
  replace e6 : IsEnumOut h6 e it ((k : Int) + 1) x hp.objs.size := e6
  refine wpAny_setField_rec e6 (by simp) fun h7 e7 s7 => ?_
  replace s7 : Heap.SameBut e h6 h7 := s7
  replace e7 : IsEnumOut h7 e it ((k : Int) + 1) x hp.objs.size := e7
  have up : ∀ b o, b ≠ e → h4.get? b = some o → h7.get? b = some o := fun b o hb z => s7.extBut b o hb (s6.extBut b o hb (s5.extBut b o hb z))
  refine wpAny_bind (wpAny_letGo (wpAny_pure ⟨_, rfl, wpAny_pure (q x h7 hx e7 (fr a4 up) (up _ _ (Nat.ne_of_gt el) t4) fun b o he hi z => up b o he (k4 b o he hi z))⟩))
theorem enum_fin {Q : Option Value → Shared → Prop} (hh : A.handled = none) (SA : SubIt prog w it fa n isA sa) (he : IsEnum s.heap e it k old) (ha : sa k s.heap) (kn : n ≤ k)
    (q : ∀ h', Heap.ExtBut it s.heap h' → Q none { s with heap := h' }) : wpAny (model prog w) A (pyNext (.ref e)) Q E s := by
  have ty : s.TypeIs (.ref e) "enumerate" := ⟨_, he, rfl⟩
  unfold pyNext
  refine wpAny_bind (wpAny_attempt (wpAny_callSpecial?_slot (name := Str.ofString "__next__") ty PySem.F.slot_enumerate_next (wpAny_call_entry PySem.F.slot_enumerate_next ty PySem.F.entry_enumerate_next ?_ (PySem.F.args_enumerate_next_1 _))))
  show wpAny _ _ (field (.ref e) 2 >>= _) _ _ _
  refine wpAny_bind (wpAny_field he rfl (x := .ref it) rfl ?_)
  refine wpAny_bind (SA.fin _ _ _ k _ (by first | exact hh | simpa using hh) kn ha fun h' x e' hx => ?_)
  obtain ⟨o, ho, hc⟩ := hx
  exact wpAny_bind (wpAny_isInstance (T := "StopIteration") (b := true) ⟨o, ho, hc⟩ isSubtype_stop (wpAny_pure (q _ e')))
theorem enum_go {elts : List Expr} {x1} {pos : Pos} {i : Int} {v : Value} {T : Addr} {Q : Unit → Shared → Prop} (hz : IsEnumOut s.heap e it i v T)
    (q : ∀ h', IsEnum h' e it i v → Heap.SameBut e s.heap h' → Q () { s with heap := h' }) : wpAny (model prog w) A (letOwnedTupleGo (.Tuple elts x1 pos) (.ref e) (.ref T)) Q E s := by
  unfold letOwnedTupleGo
  refine wpAny_bind (wpAny_load hz ?_)
  show wpAny _ _ (if (["enumerate", "zip", "dict_itemiterator", "dict_reverseitemiterator", "odict_iterator", "itertools.zip_longest", "itertools.pairwise"].contains "enumerate" && (#[rawInt T, .bool false, .ref it, rawInt i, .none, v] : Array Value)[0]? == some (rawInt T)) = true then _ else _) Q E s
  rw [if_pos (by simp)]
  refine wpAny_bind (wpAny_rule ?_)
  show wpAny _ _ (setField (.ref e) 0 .none) Q E s
  exact wpAny_setField_rec hz (by simp) fun h' z sb => q h' z sb
end
end
def Ite (K : PySem.W.Frag) (S : Src) : It :=
  ⟨fun i H => ∃ xs x, S.sq K H xs ∧ xs[i]? = some x,
   fun i H v H' => ∃ p x, v = .ref p ∧ H p = none ∧ H' = upd H p (.tup [.int i, x]) ∧ (∀ xs, S.sq K H xs → xs[i]? = some x),
   fun i H => ∃ xs, S.sq K H xs ∧ xs.length ≤ i⟩
theorem turn_enum {P : Program} {w : World} {K : PySem.W.Frag} {elts : List Expr} {x1} {pos : Pos} (S : Src) (n : Nat) (h1 : S.ad < n) :
    Turn P w K (.Tuple elts x1 pos) (Ite K S) [n + 1, n] (n + 1) (fun i h => (∃ old, IsEnum h (n + 1) n i old) ∧ S.it h n i) where
  mem := by simp
  obj := fun i h ⟨⟨x, z⟩, c⟩ q hq => by
    simp only [List.mem_cons, List.not_mem_nil, or_false] at hq
    rcases hq with rfl | rfl
    · exact ⟨_, z, fun v e => nomatch (show Data.fields _ = Data.cell v from e)⟩
    · exact S.itOb c
  keep := fun i h h' ⟨⟨x, z⟩, c⟩ k => ⟨⟨x, k _ (by simp) _ z⟩, S.itAt c fun o e => k _ (by simp) o e⟩
  item := by
    intro X hP hw hK hc i pins s σ H E I hf ⟨⟨old, z⟩, c⟩ ⟨xs, x, hx, ex⟩
    subst hP hw hK
    obtain ⟨its, r1, o1, _⟩ := S.of I hx
    obtain ⟨u1, e1, ru1⟩ := r1.get ex
    have l1 := (List.getElem?_eq_some_iff.mp e1).1
    have hlt : n + 1 < s.heap.objs.size := Heap.lt_size z
    have nea : S.ad ≠ (n + 1 : Nat) := fun e => absurd (show @LT.lt Nat _ S.ad n from h1) (by rw [e]; show ¬ @LT.lt Nat _ _ _; omega)
    refine enum_item (S.sub (P := X.prog) (w := X.w) its.toArray) z ⟨c, o1⟩ (by simpa using l1) (by (show @Ne Nat _ _; omega)) (fun z => nea (List.mem_singleton.mp z).symm) fun x' h' hx' z' ⟨c', _⟩ new kp => ?_
    have hx1 : x' = u1 := by simp [e1] at hx'; exact hx'.symm
    subst hx1
    refine ⟨_, rfl, enum_go (s := { s with heap := h', toks := s.toks + 1 }) z' fun h2' z2 sb => ?_⟩
    have up : ∀ q o, q ≠ n + 1 → h'.get? q = some o → h2'.get? q = some o := fun q o hq e => sb.extBut _ _ hq e
    have I1 : Inv X pins σ (upd H s.heap.objs.size (.tup [.int i, x])) { s with heap := h2' } := by
      refine I.yielded hf (fun q o hq e => up q o (fun z => hq (by simp [z])) (kp q o (fun z => hq (by simp [z])) (fun z => hq (by simp [z])) e)) (Nat.le_refl _) ?_
      exact ⟨show 2 ≤ sizeLine by decide, [.int i s.toks, x'], .cons ⟨_, rfl⟩ (.cons ru1 .nil), ⟨_, up _ _ (by (show @Ne Nat _ _; omega)) new, rfl, _, rfl⟩⟩
    refine ⟨.ref s.heap.objs.size, _, I1.tok (s.toks + 1), rfl, ⟨_, x, rfl, I.hok.fresh (Nat.le_refl _), rfl, fun zs hz => by rw [S.inj I hz hx]; exact ex⟩, ⟨⟨x', ?_⟩, S.itAt c' fun o e => up _ o (by (show @Ne Nat _ _; omega)) e⟩, fun q hq => ?_⟩
    · have : ((i + 1 : Nat) : Int) = (i : Int) + 1 := by omega
      show IsEnum h2' (n + 1) n ((i + 1 : Nat) : Int) x'
      rw [this]
      exact z2
    rw [upd_ne]
    · exact (hf q hq).1
    · simp only [List.mem_cons, List.not_mem_nil, or_false] at hq
      rcases hq with rfl | rfl <;> (show @Ne Nat _ _; omega)
  done := by
    intro X hP hw hK hc i pins s σ H E I hf ⟨⟨old, z⟩, c⟩ ⟨xs, hx, hl⟩
    subst hP hw hK
    obtain ⟨its, r1, o1, _⟩ := S.of I hx
    have q1 := r1.length
    refine enum_fin (I.ok.hd hc) (S.sub (P := X.prog) (w := X.w) its.toArray) z ⟨c, o1⟩ (by simp only [List.size_toArray]; omega) fun h' kp => ⟨rfl, I.turnedL hf fun q o hq e => kp q o (fun z => hq (by simp [z])) e⟩
  self := fun _ _ _ _ _ ⟨⟨_, z⟩, _⟩ q => wpAny_pyIter_enum z q
theorem boot_enum' : bootBuiltins "enumerate" = some (.type "enumerate") := by decide +kernel
def enumL : Nat → List D → List D
  | _, [] => []
  | k, d :: ds => .tup [.int k, d] :: enumL (k + 1) ds
theorem enumL_len : ∀ (xs : List D) (k : Nat), (enumL k xs).length = xs.length
  | [], _ => rfl
  | _ :: xs, k => by simp [enumL, enumL_len xs]
theorem enumL_get : ∀ (xs : List D) (k i : Nat), (enumL k xs)[i]? = (xs[i]?).map fun d => D.tup [.int ((k + i : Nat) : Int), d]
  | [], _, _ => by simp [enumL]
  | x :: xs, k, 0 => by simp [enumL]
  | x :: xs, k, i + 1 => by
    simp only [enumL, List.getElem?_cons_succ, enumL_get xs]
    rw [show k + 1 + i = k + (i + 1) by omega]
@[simp] def enumO (f : VE → Option D) : VE → Option (List D) := fun ρ => match (f ρ).bind zsItems with
  | some xs => some (enumL 0 xs)
  | none => none
theorem enum_ok {K : PySem.W.Frag} {M N : Fb} {H : Hp} {S : Src} {xs : List D} {us : List V} (h1 : DenL K N H xs us) (q1 : ∀ N2 H2, Step M N N2 H H2 → S.sq K H2 us) : ItOk K M N H (Ite K S) (enumL 0 xs) := fun N2 H2 St i => by
  have s1 := q1 _ _ St
  have d1 := DenL.step St _ _ h1
  refine ⟨fun d he => ?_, fun he => ⟨us, s1, ?_⟩⟩
  · rw [enumL_get] at he
    cases ex : xs[i]? with
    | none => rw [ex] at he; cases he
    | some x =>
      rw [ex] at he; cases he
      obtain ⟨u, eu, du⟩ := d1.get ex
      refine ⟨⟨us, u, s1, eu⟩, fun z H3 ⟨p, u', e1, hp, e3, w1⟩ => ?_⟩
      have := w1 us s1; rw [eu] at this; cases this
      subst e1 e3
      refine ⟨same_upd hp, den_newT hp (DenL.cons ?_ (DenL.cons du DenL.nil))⟩
      simp [Den]
  · have l1 := h1.length
    rw [enumL_len] at he
    omega
section
variable {X : Cx} {M : Fb} {H0 : Hp} {f : VE → Option D} {a : Expr} {elts : List Expr} {p pos tpos : Pos}
theorem vi_enum {x1} (hg : Gl X "enumerate") (hm : X.mg "enumerate" = none) (ha : PE X a (tQ X.K M H0 f)) (hs : starEach [a] X.env = [(false, eval a X.env)] := by rfl) (hs3 : starEach [] X.env = [] := by rfl) :
    PI X (.Tuple elts x1 tpos) (.Call (.Name "enumerate" p) [a] [] pos) (tI X.K M H0 (enumO f)) := by
  intro pins s σ H Q I ⟨ρ, ds, R, e, q⟩
  unfold enumO at e
  split at e
  · next xs ex =>
    cases e
    cases hf : f ρ with
    | none => rw [hf] at ex; cases ex
    | some d1 =>
      rw [hf] at ex
      have PA2 := pa_cons ha pa_nil (by rw [hs, hs3])
      refine Call_ (ld_blt I hg hm boot_enum' (PyProof.Rows.callWith_type1 (thn (PA2 pos pins s σ H (fun vs H2 => ∃ S us, vs = [.ref (Src.ad S)] ∧ Same H H2 ∧ DenL X.K (Nf M ρ σ) H2 xs us ∧ (∀ N2 H3, Step M (Nf M ρ σ) N2 H2 H3 → S.sq X.K H3 us)) I ?_) fun us s1 ⟨vs, H1, I1, r1, q1⟩ => ?_) hs rfl))
      · refine ⟨ρ, d1, R, hf, fun v1 H1 z1 q1 => ?_⟩
        obtain ⟨S, us, e1, dl1, k1⟩ := q1.src ex
        exact ⟨S, us, by rw [e1], z1, dl1, k1⟩
      · obtain ⟨S, us', e1, z, dl1, k1⟩ := q1
        subst e1
        cases r1 with
        | cons r rr =>
          cases rr
          cases r
          obtain ⟨its, v1, o1, _⟩ := S.of I1 (k1 _ _ Step.refl)
          refine enum_call o1 fun h' a1 a4 kp => wpAny_pyIter_enum a1 ?_
          refine ⟨_, _, _, _, H1, rfl, I1.kept (t' := s1.toks) kp, turn_enum S s1.heap.objs.size (S.lt o1), ⟨⟨_, a1⟩, a4⟩, fun b hb => ?_, q _ _ z (enum_ok dl1 k1)⟩
          have hl : s1.heap.objs.size ≤ b := by
            simp only [List.mem_cons, List.not_mem_nil, or_false] at hb
            rcases hb with rfl | rfl <;> (show @LE.le Nat _ _ _; omega)
          exact I1.fpOk hl (I1.hok.fresh hl)
  · cases e
theorem j_vi_enum {x1} (hg : Gl X "enumerate") (hm : X.mg "enumerate" = none) (ha : JE X a (tQ X.K M H0 f)) (hs : starEach [a] X.env = [(false, eval a X.env)] := by rfl) (hs3 : starEach [] X.env = [] := by rfl) :
    JI X (.Tuple elts x1 tpos) (.Call (.Name "enumerate" p) [a] [] pos) (tI X.K M H0 (enumO f)) := ⟨vi_enum hg hm ha.h hs hs3⟩
end
end L2

set_option Elab.async false
set_option linter.all false
set_option maxRecDepth 100000
/-! Plain facts about the functions of the value layer, for simp. -/
namespace L2
open PySem PySem.Spec PyProof.Rows
@[simp] theorem eqD_ii (a b : Int) : eqD (.int a) (.int b) = decide (a = b) := by simp only [eqD]; by_cases h : a = b <;> simp [h]
@[simp] theorem eqD_ss (a b : Str) : eqD (.str a) (.str b) = decide (a = b) := by simp only [eqD]; by_cases h : a = b <;> simp [h]
@[simp] theorem eqD_bb (a b : Bool) : eqD (.bl a) (.bl b) = decide (a = b) := by simp only [eqD]; by_cases h : a = b <;> simp [h]
@[simp] theorem eqD_nn : eqD .non .non = true := by simp only [eqD]
@[simp] theorem eqD_bi (a : Bool) (b : Int) : eqD (.bl a) (.int b) = decide ((if a then 1 else 0) = b) := by simp only [eqD]; by_cases h : (if a then 1 else 0) = b <;> simp [h]
@[simp] theorem eqD_ib (a : Int) (b : Bool) : eqD (.int a) (.bl b) = decide (a = (if b then 1 else 0)) := by simp only [eqD]; by_cases h : a = (if b then 1 else 0) <;> simp [h]
@[simp] theorem eqD_is (a : Int) (b : Str) : eqD (.int a) (.str b) = false := by simp only [eqD]
@[simp] theorem eqD_si (a : Str) (b : Int) : eqD (.str a) (.int b) = false := by simp only [eqD]
@[simp] theorem eqD_bs (a : Bool) (b : Str) : eqD (.bl a) (.str b) = false := by simp only [eqD]
@[simp] theorem eqD_sb (a : Str) (b : Bool) : eqD (.str a) (.bl b) = false := by simp only [eqD]
@[simp] theorem eqD_ni (b : Int) : eqD .non (.int b) = false := by simp only [eqD]
@[simp] theorem eqD_ns (b : Str) : eqD .non (.str b) = false := by simp only [eqD]
@[simp] theorem eqD_nb (b : Bool) : eqD .non (.bl b) = false := by simp only [eqD]
@[simp] theorem eqD_in (b : Int) : eqD (.int b) .non = false := by simp only [eqD]
@[simp] theorem eqD_sn (b : Str) : eqD (.str b) .non = false := by simp only [eqD]
@[simp] theorem eqD_bn (b : Bool) : eqD (.bl b) .non = false := by simp only [eqD]
@[simp] theorem eqD_tt (a b : List D) : eqD (.tup a) (.tup b) = eqDs a b := by simp only [eqD]
@[simp] theorem eqD_ll (a b : List D) : eqD (.lst a) (.lst b) = eqDs a b := by simp only [eqD]
@[simp] theorem eqD_tl (a b : List D) : eqD (.tup a) (.lst b) = false := by simp only [eqD]
@[simp] theorem eqD_lt (a b : List D) : eqD (.lst a) (.tup b) = false := by simp only [eqD]
@[simp] theorem eqD_ti (a : List D) (b : Int) : eqD (.tup a) (.int b) = false := by simp only [eqD]
@[simp] theorem eqD_ts (a : List D) (b : Str) : eqD (.tup a) (.str b) = false := by simp only [eqD]
@[simp] theorem eqD_tn (a : List D) : eqD (.tup a) .non = false := by simp only [eqD]
@[simp] theorem eqD_tb (a : List D) (b : Bool) : eqD (.tup a) (.bl b) = false := by simp only [eqD]
@[simp] theorem eqD_it (a : List D) (b : Int) : eqD (.int b) (.tup a) = false := by simp only [eqD]
@[simp] theorem eqD_st (a : List D) (b : Str) : eqD (.str b) (.tup a) = false := by simp only [eqD]
@[simp] theorem eqD_nt (a : List D) : eqD .non (.tup a) = false := by simp only [eqD]
@[simp] theorem eqD_bt (a : List D) (b : Bool) : eqD (.bl b) (.tup a) = false := by simp only [eqD]
@[simp] theorem eqD_li (a : List D) (b : Int) : eqD (.lst a) (.int b) = false := by simp only [eqD]
@[simp] theorem eqD_ls (a : List D) (b : Str) : eqD (.lst a) (.str b) = false := by simp only [eqD]
@[simp] theorem eqD_ln (a : List D) : eqD (.lst a) .non = false := by simp only [eqD]
@[simp] theorem eqD_lb (a : List D) (b : Bool) : eqD (.lst a) (.bl b) = false := by simp only [eqD]
@[simp] theorem eqD_il (a : List D) (b : Int) : eqD (.int b) (.lst a) = false := by simp only [eqD]
@[simp] theorem eqD_sl (a : List D) (b : Str) : eqD (.str b) (.lst a) = false := by simp only [eqD]
@[simp] theorem eqD_nl (a : List D) : eqD .non (.lst a) = false := by simp only [eqD]
@[simp] theorem eqD_bl' (a : List D) (b : Bool) : eqD (.bl b) (.lst a) = false := by simp only [eqD]
@[simp] theorem eqDs_nil : eqDs [] [] = true := by simp only [eqDs]
@[simp] theorem eqDs_cons (a b : D) (as bs : List D) : eqDs (a :: as) (b :: bs) = (eqD a b && eqDs as bs) := by simp only [eqDs]
@[simp] theorem eqDs_nc (b : D) (bs : List D) : eqDs [] (b :: bs) = false := by simp only [eqDs]
@[simp] theorem eqDs_cn (b : D) (bs : List D) : eqDs (b :: bs) [] = false := by simp only [eqDs]
@[simp] theorem eqDs_ints : ∀ (a b : List Int), eqDs (a.map D.int) (b.map D.int) = decide (a = b)
  | [], [] => by simp
  | [], _ :: _ => by simp
  | _ :: _, [] => by simp
  | x :: a, y :: b => by simp [eqDs_ints a b]
@[simp] theorem okD_ints (n : Nat) (a : List Int) : (a.map D.int).all (okD n) = true := by
  rw [List.all_eq_true]
  intro x hx
  obtain ⟨i, _, rfl⟩ := List.mem_map.mp hx
  cases n <;> rfl
@[simp] theorem tyLe_eq (t n : String) : tyLe t n = (t == n || (t == "bool" && n == "int")) := rfl
@[simp] theorem tyNames_eq : tyNames = ["NoneType", "bool", "int", "str", "tuple", "list"] := rfl
@[simp] theorem deep_eq : deep = 12 := rfl
@[simp] theorem tysL_nil : tysOf.tysL [] = some [] := rfl
@[simp] theorem tysL_cons (n : String) (r : List D) : tysOf.tysL (.ty n :: r) = (tysOf.tysL r).map (n :: ·) := rfl
@[simp] theorem asIs_eq (ns : List Int) : asIs (ns.map D.int) = some ns := asIs_ints ns
@[simp] theorem asBs_eq : ∀ (ns : List Bool), asBs (ns.map D.bl) = some ns
  | [] => rfl
  | n :: ns => by simp only [List.map_cons, asBs, asBs_eq ns]; rfl
/-- a loop by what holds between two turns -/
theorem forR_run {b : D → VE → Option VE} {g : VE → Res} {ds : List D} (I : List D → VE → Prop) : ∀ (pre post : List D) (ρ : VE), ds = pre ++ post → I pre ρ →
    (∀ pre d post ρ, ds = pre ++ d :: post → I pre ρ → ∃ ρ1 ρ2, b d ρ = some ρ1 ∧ g ρ1 = .next ρ2 ∧ I (pre ++ [d]) ρ2) → ∃ ρ', forR b g post ρ = .next ρ' ∧ I ds ρ'
  | pre, [], ρ, e, h, _ => ⟨ρ, rfl, by rw [e, List.append_nil]; exact h⟩
  | pre, d :: post, ρ, e, h, hs => by
    obtain ⟨ρ1, ρ2, h1, h2, h3⟩ := hs pre d post ρ e h
    obtain ⟨ρ', h4, h5⟩ := forR_run I (pre ++ [d]) post ρ2 (by rw [e]; simp) h3 hs
    exact ⟨ρ', by simp only [forR, h1, h2]; exact h4, h5⟩
/-- a comprehension without a test, whose elements are worth F -/
theorem compL_map {α : Type} {b : D → VE → Option VE} {e : VE → Option D} {ρ : VE} (G F : α → D) : ∀ (xs : List α), (∀ x ∈ xs, ∃ ρ1, b (G x) ρ = some ρ1 ∧ e ρ1 = some (F x)) → compL b (fun _ => some true) e ρ (xs.map G) = some (xs.map F)
  | [], _ => rfl
  | x :: xs, h => by
    obtain ⟨ρ1, h1, h2⟩ := h x List.mem_cons_self
    simp only [List.map_cons, compL, h1, h2, consO, Option.bind, compL_map G F xs fun y hy => h y (List.mem_cons_of_mem _ hy)]
theorem rng_map (lo : Int) (n : Nat) : rngItems lo n = (List.range n).map fun (k : Nat) => D.int (lo + (k : Int)) := rfl
/-- the mark of the size -/
@[simp] theorem short_le {α : Type} (l : List α) (h : l.length ≤ 1000000) : shortO (some l) = some l := by
  have : l.length ≤ sizeLine := Nat.le_trans h (by decide)
  simp [this]
theorem cutD_map {α β : Type} (f : α → β) (xs : List α) (lo hi : Option Int) : cutD (xs.map f) lo hi = (cutD xs lo hi).map f := by
  unfold cutD
  rw [List.length_map, List.map_take, List.map_drop]
theorem cut_to {α : Type} (xs : List α) (k : Int) (h : 0 ≤ k) : cutD xs none (some k) = xs.take k.toNat := by
  have e : HT.sIx xs.length 0 none = 0 := rfl
  have e2 : HT.sIx xs.length xs.length (some k) = min k.toNat xs.length := by simp only [HT.sIx]; split <;> omega
  unfold cutD
  rw [e, e2, List.drop_zero, Nat.sub_zero]
  rcases Nat.le_total k.toNat xs.length with h1 | h1
  · rw [Nat.min_eq_left h1]
  · rw [Nat.min_eq_right h1, List.take_length, List.take_of_length_le h1]
theorem cut_from {α : Type} (xs : List α) (k : Int) (h : 0 ≤ k) : cutD xs (some k) none = xs.drop k.toNat := by
  have e : HT.sIx xs.length xs.length none = xs.length := rfl
  have e2 : HT.sIx xs.length 0 (some k) = min k.toNat xs.length := by simp only [HT.sIx]; split <;> omega
  unfold cutD
  rw [e, e2]
  rcases Nat.le_total k.toNat xs.length with h1 | h1
  · rw [Nat.min_eq_left h1, List.take_of_length_le (by rw [List.length_drop]; exact Nat.le_refl _)]
  · rw [Nat.min_eq_right h1, List.drop_length, List.drop_of_length_le h1, List.take_nil]
theorem cut_mid {α : Type} (xs : List α) (i j : Int) (hi : 0 ≤ i) (hj : 0 ≤ j) : cutD xs (some i) (some j) = (xs.drop i.toNat).take (j.toNat - i.toNat) := by
  have e1 : HT.sIx xs.length 0 (some i) = min i.toNat xs.length := by simp only [HT.sIx]; split <;> omega
  have e2 : HT.sIx xs.length xs.length (some j) = min j.toNat xs.length := by simp only [HT.sIx]; split <;> omega
  unfold cutD
  rw [e1, e2]
  rcases Nat.le_total i.toNat xs.length with h1 | h1
  · rw [Nat.min_eq_left h1]
    rcases Nat.le_total j.toNat xs.length with h2 | h2
    · rw [Nat.min_eq_left h2]
    · rw [Nat.min_eq_right h2, List.take_of_length_le (by rw [List.length_drop]; exact Nat.le_refl _), List.take_of_length_le (by rw [List.length_drop]; omega)]
  · rw [Nat.min_eq_right h1, List.drop_length, List.drop_of_length_le h1, List.take_nil, List.take_nil]
@[simp] theorem sortD_eq (ns : List Int) : sortD [.lst (ns.map D.int)] = if ns.length < 64 then some ((isrt ns).map D.int) else none := by simp [sortD]
theorem perm_sum {a b : List Int} (h : a.Perm b) : a.sum = b.sum := by
  induction h with
  | nil => rfl
  | cons x _ ih => simp [ih]
  | swap x y l => simp; omega
  | trans _ _ h1 h2 => exact h1.trans h2
theorem sum_append : ∀ (a b : List Int), (a ++ b).sum = a.sum + b.sum
  | [], b => by simp
  | x :: a, b => by simp [sum_append a b, Int.add_assoc]
theorem rng1_int (j : Int) (h0 : 0 ≤ j) (h : j < 1000000000) : rng1 [.int j] = some ((List.range j.toNat).map fun (k : Nat) => D.int (k : Int)) := by
  have e : rngItems 0 j.toNat = (List.range j.toNat).map fun (k : Nat) => D.int (k : Int) := by simp [rngItems]
  simp only [rng1]
  rw [gd_pos ⟨by omega, by omega⟩, e]
theorem rng1_nat (n : Nat) (h : n < 1000000000) : rng1 [.int (n : Int)] = some ((List.range n).map fun (k : Nat) => D.int (k : Int)) := by
  rw [rng1_int _ (by omega) (by omega), Int.toNat_natCast]
theorem rng2_int (i j : Int) (h0 : 0 ≤ i) (h1 : i < 1000000000) (h : j < 1000000000) (h2 : -1000000000 < j) : rng2 [.int i, .int j] = some ((List.range (j - i).toNat).map fun (k : Nat) => D.int (i + (k : Int))) := by
  simp only [rng2]
  rw [gd_pos ⟨by omega, by omega, by omega, by omega⟩]
  rfl
theorem addD_lst (xs ys : List D) (h : xs.length + ys.length ≤ 1000000) : addD (.lst xs) (.lst ys) = some (.lst (xs ++ ys)) := by
  simp only [addD]
  rw [if_pos (Nat.le_trans h (by decide))]
theorem addD_tup (xs ys : List D) (h : xs.length + ys.length ≤ 1000000) : addD (.tup xs) (.tup ys) = some (.tup (xs ++ ys)) := by
  simp only [addD]
  rw [if_pos (Nat.le_trans h (by decide))]
theorem addD_str (x y : Str) (h : x.length + y.length ≤ 1000000) : addD (.str x) (.str y) = some (.str (x ++ y)) := by
  simp only [addD]
  rw [if_pos (Nat.le_trans h (by decide))]
theorem inD_one (neg : Bool) (c : Nat) (z : Str) : inD neg (.str ⟨#[c]⟩) (.str z) = some (.bl (if neg then !decide (c ∈ z.cps.toList) else decide (c ∈ z.cps.toList))) := by
  have h := StrLaws.found_one z c
  simp only [inD]
  rw [h]
theorem ixN_ok {n : Nat} {i : Int} (h0 : 0 ≤ i) (h1 : i < n) : ixN n i = some i.toNat := by unfold ixN; rw [if_pos h0, if_pos h1]
theorem atI_ok {α : Type} {xs : List α} {i : Int} (h0 : 0 ≤ i) (h1 : i < xs.length) : ∃ x, atI xs i = some x ∧ x ∈ xs := by
  have h : i.toNat < xs.length := by omega
  refine ⟨xs[i.toNat], ?_, List.getElem_mem _⟩
  unfold atI
  rw [ixN_ok h0 h1]
  exact List.getElem?_eq_getElem h
theorem ixD_str {z : Str} {i : Int} (hz : z.length ≤ 1000000) (h0 : 0 ≤ i) (h1 : i < z.length) : ∃ c, ixD (.str z) (.int i) = some (.str ⟨#[c]⟩) ∧ c ∈ z.cps.toList := by
  have hl : z.cps.toList.length = z.length := by simp [Str.length]
  obtain ⟨c, e, hc⟩ := atI_ok (xs := z.cps.toList) h0 (by rw [hl]; exact h1)
  refine ⟨c, ?_, hc⟩
  simp only [ixD]
  rw [if_pos (Nat.le_trans hz (by decide)), e]
  rfl
end L2

set_option Elab.async false
set_option linter.all false
set_option maxRecDepth 100000
set_option maxHeartbeats 4000000
namespace K21
open PySem PySem.Spec PyProof.Rows L2
/-- as_fine: slots 0 one, 1 other -/
noncomputable def C_as_fine_0 : VE → Option D := (bin2 leD (fun ρ => rdP ρ 0) (fun ρ => rdP ρ 1))
noncomputable def g_as_fine : VE → Res := (fun ρ => seqR ((fun ρ => retO ((bltO allD (fun ρ => consO (valO ((fun ρ => lstO ((compF 2 [] (zipO (fun ρ => rdQ ρ 0) (fun ρ => rdQ ρ 1)) (bTup 2 (bCons (bName 0) (bCons (bName 1) bNil))) (fun _ => some true) C_as_fine_0) ρ)) ρ)) ((fun _ => some []) ρ))) ρ)) ρ) (fun ρ => .next ρ))
noncomputable def F_as_fine : List Sl → Option Rv := fnP 2 2 g_as_fine
/-- meet: slots 0 one, 1 other -/
noncomputable def C_meet_0 : VE → Option D := (bltO min2D (fun ρ => consO (rdA ρ 0) ((fun ρ => consO (rdA ρ 1) ((fun _ => some []) ρ)) ρ)))
noncomputable def g_meet : VE → Res := (fun ρ => seqR ((fun ρ => retO ((bltO tupD (fun ρ => consO (valO ((fun ρ => lstO ((compF 2 [] (zipO (fun ρ => rdQ ρ 0) (fun ρ => rdQ ρ 1)) (bTup 2 (bCons (bName 0) (bCons (bName 1) bNil))) (fun _ => some true) C_meet_0) ρ)) ρ)) ((fun _ => some []) ρ))) ρ)) ρ) (fun ρ => .next ρ))
noncomputable def F_meet : List Sl → Option Rv := fnP 2 2 g_meet
/-- join: slots 0 one, 1 other -/
noncomputable def C_join_0 : VE → Option D := (bltO max2D (fun ρ => consO (rdA ρ 0) ((fun ρ => consO (rdA ρ 1) ((fun _ => some []) ρ)) ρ)))
noncomputable def g_join : VE → Res := (fun ρ => seqR ((fun ρ => retO ((bltO tupD (fun ρ => consO (valO ((fun ρ => lstO ((compF 2 [] (zipO (fun ρ => rdQ ρ 0) (fun ρ => rdQ ρ 1)) (bTup 2 (bCons (bName 0) (bCons (bName 1) bNil))) (fun _ => some true) C_join_0) ρ)) ρ)) ((fun _ => some []) ρ))) ρ)) ρ) (fun ρ => .next ρ))
noncomputable def F_join : List Sl → Option Rv := fnP 2 2 g_join
/-- _law_cell_at: slots 0 _law_script, 1 _law_k -/
noncomputable def g_law_cell_at : VE → Res := (fun ρ => seqR ((fun ρ => iteR ((fun ρ => asB ((bin2 ltO (fun ρ => rdP ρ 1) (bltO lenD (fun ρ => consO (rdA ρ 0) ((fun _ => some []) ρ)))) ρ)) ρ) ((fun ρ => seqR ((fun ρ => retO ((bin2 ixD (fun ρ => rdP ρ 0) (fun ρ => rdP ρ 1)) ρ)) ρ) (fun ρ => .next ρ)) ρ) ((fun ρ => .next ρ) ρ)) ρ) (fun ρ => seqR ((fun ρ => retO ((fun _ => some (.int (0))) ρ)) ρ) (fun ρ => .next ρ)))
noncomputable def F_law_cell_at : List Sl → Option Rv := fnP 2 2 g_law_cell_at
/-- _law_stream: slots 0 _law_cell, 1 _law_many, 2 _law_number, 3 _law_found, 4 _law_k -/
noncomputable def L_law_stream_0 : VE → Res := (fun ρ => seqR ((fun ρ => setR 2 ((bin2 modD (bin2 mulD (fun ρ => rdP ρ 2) (fun _ => some (.int (48271)))) (fun _ => some (.int (2147483647)))) ρ) ρ) ρ) (fun ρ => seqR ((fun ρ => appR 3 ((fun ρ => rdV ρ 2) ρ) ρ) ρ) (fun ρ => .next ρ)))
noncomputable def P_law_stream_0 : VE → Res := (fun ρ => setR 2 ((bin2 addD (fun _ => some (.int (1))) (bin2 modD (fun ρ => rdP ρ 0) (fun _ => some (.int (2147483646))))) ρ) ρ)
noncomputable def P_law_stream_1 : VE → Res := (fun ρ => setRF 3 ((fun ρ => shortO (((fun _ => some []) ρ).bind vals)) ρ) ρ)
noncomputable def P_law_stream_2 : VE → Res := (forO (fun ρ => (((fun ρ => consO (valO ((bin2 addD (fun ρ => rdP ρ 1) (fun _ => some (.int (2)))) ρ)) ((fun _ => some []) ρ)) ρ).bind vals).bind rng1) (bName 4) L_law_stream_0)
noncomputable def P_law_stream_3 : VE → Res := (fun ρ => retO ((sl3 (fun ρ => rdP ρ 3) (fun ρ => asI ((fun _ => some (.int (2))) ρ)) (fun _ => some none) slD) ρ))
noncomputable def S_law_stream_4 : VE → Res := fun ρ => .next ρ
noncomputable def S_law_stream_3 : VE → Res := fun ρ => seqR (P_law_stream_3 ρ) S_law_stream_4
noncomputable def S_law_stream_2 : VE → Res := fun ρ => seqR (P_law_stream_2 ρ) S_law_stream_3
noncomputable def S_law_stream_1 : VE → Res := fun ρ => seqR (P_law_stream_1 ρ) S_law_stream_2
noncomputable def S_law_stream_0 : VE → Res := fun ρ => seqR (P_law_stream_0 ρ) S_law_stream_1
noncomputable def g_law_stream : VE → Res := S_law_stream_0
noncomputable def F_law_stream : List Sl → Option Rv := fnP 2 5 g_law_stream
/-- _law_fine: slots 0 _law_one, 1 _law_other, 2 _law_k -/
noncomputable def L_law_fine_0 : VE → Res := (fun ρ => seqR ((fun ρ => iteR ((fun ρ => asB ((bin2 gtD (bin2 ixD (fun ρ => rdP ρ 0) (fun ρ => rdP ρ 2)) (bin2 ixD (fun ρ => rdP ρ 1) (fun ρ => rdP ρ 2))) ρ)) ρ) ((fun ρ => seqR ((fun ρ => retO ((fun _ => some (.bl false)) ρ)) ρ) (fun ρ => .next ρ)) ρ) ((fun ρ => .next ρ) ρ)) ρ) (fun ρ => .next ρ))
noncomputable def g_law_fine : VE → Res := (fun ρ => seqR ((forO (fun ρ => (((fun ρ => consO (valO ((bltO lenD (fun ρ => consO (rdA ρ 0) ((fun _ => some []) ρ))) ρ)) ((fun _ => some []) ρ)) ρ).bind vals).bind rng1) (bName 2) L_law_fine_0) ρ) (fun ρ => seqR ((fun ρ => retO ((fun _ => some (.bl true)) ρ)) ρ) (fun ρ => .next ρ)))
noncomputable def F_law_fine : List Sl → Option Rv := fnP 2 3 g_law_fine
/-- _law_levels: slots 0 _law_found, 1 _law_many, 2 _law_level -/
noncomputable def L_law_levels_0 : VE → Res := (fun ρ => seqR ((fun ρ => iteR ((fun ρ => orB ((fun ρ => notO ((fun ρ => truD ((bltO isD (fun ρ => consO (rdA ρ 2) ((fun ρ => consO (valO ((fun _ => some (.ty "int")) ρ)) ((fun _ => some []) ρ)) ρ))) ρ)) ρ)) ρ) ((fun ρ => orB ((fun ρ => truD ((bltO isD (fun ρ => consO (rdA ρ 2) ((fun ρ => consO (valO ((fun _ => some (.ty "bool")) ρ)) ((fun _ => some []) ρ)) ρ))) ρ)) ρ) ((fun ρ => notO ((fun ρ => asB ((chainO leD leD (fun _ => some (.int (0))) (fun ρ => rdP ρ 2) (fun _ => some (.int (4)))) ρ)) ρ)) ρ)) ρ)) ρ) ((fun ρ => seqR ((fun ρ => retO ((fun _ => some (.bl false)) ρ)) ρ) (fun ρ => .next ρ)) ρ) ((fun ρ => .next ρ) ρ)) ρ) (fun ρ => .next ρ))
noncomputable def g_law_levels : VE → Res := (fun ρ => seqR ((fun ρ => iteR ((fun ρ => orB ((fun ρ => notO ((fun ρ => truD ((bltO isD (fun ρ => consO (rdA ρ 0) ((fun ρ => consO (valO ((fun _ => some (.ty "tuple")) ρ)) ((fun _ => some []) ρ)) ρ))) ρ)) ρ)) ρ) ((fun ρ => asB ((bin2 neO (bltO lenD (fun ρ => consO (rdA ρ 0) ((fun _ => some []) ρ))) (fun ρ => rdP ρ 1)) ρ)) ρ)) ρ) ((fun ρ => seqR ((fun ρ => retO ((fun _ => some (.bl false)) ρ)) ρ) (fun ρ => .next ρ)) ρ) ((fun ρ => .next ρ) ρ)) ρ) (fun ρ => seqR ((forO (fun ρ => ((fun ρ => rdQ ρ 0) ρ).bind seqItems) (bName 2) L_law_levels_0) ρ) (fun ρ => seqR ((fun ρ => retO ((fun _ => some (.bl true)) ρ)) ρ) (fun ρ => .next ρ))))
noncomputable def F_law_levels : List Sl → Option Rv := fnP 2 3 g_law_levels
/-- _law_all: slots 0 _law_many, 1 _law_found, 2 _law_k, 3 _law_longer, 4 _law_grain -/
noncomputable def C_law_all_0 : VE → Option D := (bin2 addD (fun ρ => rdP ρ 1) (fun ρ => (shortO (((fun ρ => consO (valO ((fun ρ => rdV ρ 0) ρ)) ((fun _ => some []) ρ)) ρ).bind vals)).map D.tup))
noncomputable def L_law_all_0 : VE → Res := (fun ρ => seqR ((fun ρ => setR 3 ((bin2 addD (fun ρ => rdP ρ 3) (fun ρ => lstO ((compF 1 [4] (fun ρ => (((fun ρ => consO (valO ((fun _ => some (.int (5))) ρ)) ((fun _ => some []) ρ)) ρ).bind vals).bind rng1) (bName 0) (fun _ => some true) C_law_all_0) ρ))) ρ) ρ) ρ) (fun ρ => .next ρ))
noncomputable def L_law_all_1 : VE → Res := (fun ρ => seqR ((fun ρ => setR 3 ((fun ρ => lstO ((fun ρ => shortO (((fun _ => some []) ρ).bind vals)) ρ)) ρ) ρ) ρ) (fun ρ => seqR ((forO (fun ρ => ((fun ρ => rdQ ρ 1) ρ).bind seqItems) (bName 4) L_law_all_0) ρ) (fun ρ => seqR ((fun ρ => setR 1 ((fun ρ => rdV ρ 3) ρ) ρ) ρ) (fun ρ => .next ρ))))
noncomputable def g_law_all : VE → Res := (fun ρ => seqR ((fun ρ => setR 1 ((fun ρ => lstO ((fun ρ => shortO (((fun ρ => consO (valO ((fun ρ => (shortO (((fun _ => some []) ρ).bind vals)).map D.tup) ρ)) ((fun _ => some []) ρ)) ρ).bind vals)) ρ)) ρ) ρ) ρ) (fun ρ => seqR ((forO (fun ρ => (((fun ρ => consO (valO ((fun ρ => rdV ρ 0) ρ)) ((fun _ => some []) ρ)) ρ).bind vals).bind rng1) (bName 2) L_law_all_1) ρ) (fun ρ => seqR ((fun ρ => retO ((fun ρ => rdV ρ 1) ρ)) ρ) (fun ρ => .next ρ))))
noncomputable def F_law_all : List Sl → Option Rv := fnP 1 5 g_law_all
/-- _law_bounds_good: slots 0 _law_one, 1 _law_other, 2 _law_low, 3 _law_high, 4 _law_grain, 5 _law_below, 6 _law_above -/
noncomputable def L_law_bounds_good_0 : VE → Res := (fun ρ => seqR ((fun ρ => setR 5 ((fun ρ => blO (andO (asB ((callO F_law_fine (fun ρ => consO (rdA ρ 4) ((fun ρ => consO (rdA ρ 0) ((fun _ => some []) ρ)) ρ))) ρ)) (asB ((callO F_law_fine (fun ρ => consO (rdA ρ 4) ((fun ρ => consO (rdA ρ 1) ((fun _ => some []) ρ)) ρ))) ρ)))) ρ) ρ) ρ) (fun ρ => seqR ((fun ρ => setR 6 ((fun ρ => blO (andO (asB ((callO F_law_fine (fun ρ => consO (rdA ρ 0) ((fun ρ => consO (rdA ρ 4) ((fun _ => some []) ρ)) ρ))) ρ)) (asB ((callO F_law_fine (fun ρ => consO (rdA ρ 1) ((fun ρ => consO (rdA ρ 4) ((fun _ => some []) ρ)) ρ))) ρ)))) ρ) ρ) ρ) (fun ρ => seqR ((fun ρ => iteR ((fun ρ => orB ((fun ρ => asB ((bin2 neO (fun ρ => rdP ρ 5) (callO F_law_fine (fun ρ => consO (rdA ρ 4) ((fun ρ => consO (rdA ρ 2) ((fun _ => some []) ρ)) ρ)))) ρ)) ρ) ((fun ρ => asB ((bin2 neO (fun ρ => rdP ρ 6) (callO F_law_fine (fun ρ => consO (rdA ρ 3) ((fun ρ => consO (rdA ρ 4) ((fun _ => some []) ρ)) ρ)))) ρ)) ρ)) ρ) ((fun ρ => seqR ((fun ρ => retO ((fun _ => some (.bl false)) ρ)) ρ) (fun ρ => .next ρ)) ρ) ((fun ρ => .next ρ) ρ)) ρ) (fun ρ => .next ρ))))
noncomputable def g_law_bounds_good : VE → Res := (fun ρ => seqR ((forO (fun ρ => ((callO F_law_all (fun ρ => consO (valO ((bltO lenD (fun ρ => consO (rdA ρ 0) ((fun _ => some []) ρ))) ρ)) ((fun _ => some []) ρ))) ρ).bind seqItems) (bName 4) L_law_bounds_good_0) ρ) (fun ρ => seqR ((fun ρ => retO ((fun _ => some (.bl true)) ρ)) ρ) (fun ρ => .next ρ)))
noncomputable def F_law_bounds_good : List Sl → Option Rv := fnP 4 7 g_law_bounds_good
/-- law: slots 0 _law_script, 1 _law_way, 2 _law_many, 3 _law_one, 4 _law_other, 5 _law_at, 6 _law_left, 7 _law_right, 8 _law_told, 9 _law_low, 10 _law_high -/
noncomputable def C_law_0 : VE → Option D := (bin2 modD (bin2 fdivD (callO F_law_cell_at (fun ρ => consO (rdA ρ 1) ((fun ρ => consO (valO ((bin2 addD (fun _ => some (.int (1))) (fun ρ => rdP ρ 0)) ρ)) ((fun _ => some []) ρ)) ρ))) (fun _ => some (.int (5)))) (fun _ => some (.int (5))))
noncomputable def C_law_1 : VE → Option D := (bin2 modD (bin2 addD (callO F_law_cell_at (fun ρ => consO (rdA ρ 1) ((fun ρ => consO (valO ((bin2 addD (fun _ => some (.int (5))) (fun ρ => rdP ρ 0)) ρ)) ((fun _ => some []) ρ)) ρ))) (bin2 ixD (fun ρ => rdP ρ 2) (bin2 addD (fun _ => some (.int (2))) (fun ρ => rdP ρ 0)))) (fun _ => some (.int (5))))
noncomputable def L_law_0 : VE → Res := (fun ρ => seqR ((fun ρ => setR 8 ((callO F_as_fine (fun ρ => consO (rdA ρ 6) ((fun ρ => consO (rdA ρ 7) ((fun _ => some []) ρ)) ρ))) ρ) ρ) ρ) (fun ρ => seqR ((fun ρ => iteR ((fun ρ => orB ((fun ρ => notO ((fun ρ => truD ((bltO isD (fun ρ => consO (rdA ρ 8) ((fun ρ => consO (valO ((fun _ => some (.ty "bool")) ρ)) ((fun _ => some []) ρ)) ρ))) ρ)) ρ)) ρ) ((fun ρ => asB ((bin2 neO (fun ρ => rdP ρ 8) (callO F_law_fine (fun ρ => consO (rdA ρ 6) ((fun ρ => consO (rdA ρ 7) ((fun _ => some []) ρ)) ρ)))) ρ)) ρ)) ρ) ((fun ρ => seqR ((fun ρ => retO ((fun _ => some (.bl false)) ρ)) ρ) (fun ρ => .next ρ)) ρ) ((fun ρ => .next ρ) ρ)) ρ) (fun ρ => .next ρ)))
noncomputable def P_law_0 : VE → Res := (fun ρ => setR 1 ((callO F_law_stream (fun ρ => consO (valO ((callO F_law_cell_at (fun ρ => consO (rdA ρ 0) ((fun ρ => consO (valO ((fun _ => some (.int (0))) ρ)) ((fun _ => some []) ρ)) ρ))) ρ)) ((fun ρ => consO (valO ((fun _ => some (.int (6))) ρ)) ((fun _ => some []) ρ)) ρ))) ρ) ρ)
noncomputable def P_law_1 : VE → Res := (fun ρ => setR 2 ((bin2 addD (fun _ => some (.int (1))) (bin2 modD (bin2 ixD (fun ρ => rdP ρ 1) (fun _ => some (.int (0)))) (fun _ => some (.int (4))))) ρ) ρ)
noncomputable def P_law_2 : VE → Res := (fun ρ => setR 3 ((bltO tupD (fun ρ => consO (valO ((fun ρ => lstO ((compF 1 [0] (fun ρ => (((fun ρ => consO (valO ((fun ρ => rdV ρ 2) ρ)) ((fun _ => some []) ρ)) ρ).bind vals).bind rng1) (bName 0) (fun _ => some true) C_law_0) ρ)) ρ)) ((fun _ => some []) ρ))) ρ) ρ)
noncomputable def P_law_3 : VE → Res := (fun ρ => setR 4 ((bltO tupD (fun ρ => consO (valO ((fun ρ => lstO ((compF 1 [0, 1] (fun ρ => (((fun ρ => consO (valO ((fun ρ => rdV ρ 2) ρ)) ((fun _ => some []) ρ)) ρ).bind vals).bind rng1) (bName 0) (fun _ => some true) C_law_1) ρ)) ρ)) ((fun _ => some []) ρ))) ρ) ρ)
noncomputable def P_law_4 : VE → Res := (fun ρ => iteR ((fun ρ => asB ((bin2 eqO (bin2 modD (bin2 ixD (fun ρ => rdP ρ 1) (fun _ => some (.int (1)))) (fun _ => some (.int (4)))) (fun _ => some (.int (1)))) ρ)) ρ) ((fun ρ => seqR ((fun ρ => setR 4 ((fun ρ => rdV ρ 3) ρ) ρ) ρ) (fun ρ => .next ρ)) ρ) ((fun ρ => .next ρ) ρ))
noncomputable def P_law_5 : VE → Res := (fun ρ => iteR ((fun ρ => asB ((bin2 eqO (bin2 modD (bin2 ixD (fun ρ => rdP ρ 1) (fun _ => some (.int (1)))) (fun _ => some (.int (4)))) (fun _ => some (.int (2)))) ρ)) ρ) ((fun ρ => seqR ((fun ρ => setR 5 ((bin2 modD (bin2 fdivD (bin2 ixD (fun ρ => rdP ρ 1) (fun _ => some (.int (1)))) (fun _ => some (.int (4)))) (fun ρ => rdP ρ 2)) ρ) ρ) ρ) (fun ρ => seqR ((fun ρ => setR 4 ((bin2 addD (bin2 addD (sl3 (fun ρ => rdP ρ 3) (fun _ => some none) (fun ρ => asI ((fun ρ => rdP ρ 5) ρ)) slD) (fun ρ => (shortO (((fun ρ => consO (valO ((bin2 modD (bin2 addD (bin2 ixD (fun ρ => rdP ρ 3) (fun ρ => rdP ρ 5)) (fun _ => some (.int (1)))) (fun _ => some (.int (5)))) ρ)) ((fun _ => some []) ρ)) ρ).bind vals)).map D.tup)) (sl3 (fun ρ => rdP ρ 3) (fun ρ => asI ((bin2 addD (fun ρ => rdP ρ 5) (fun _ => some (.int (1)))) ρ)) (fun _ => some none) slD)) ρ) ρ) ρ) (fun ρ => .next ρ))) ρ) ((fun ρ => .next ρ) ρ))
noncomputable def P_law_6 : VE → Res := (forO (fun ρ => ((fun ρ => lstO ((fun ρ => shortO (((fun ρ => consO (valO ((fun ρ => (shortO (((fun ρ => consO (valO ((fun ρ => rdV ρ 3) ρ)) ((fun ρ => consO (valO ((fun ρ => rdV ρ 4) ρ)) ((fun _ => some []) ρ)) ρ)) ρ).bind vals)).map D.tup) ρ)) ((fun ρ => consO (valO ((fun ρ => (shortO (((fun ρ => consO (valO ((fun ρ => rdV ρ 4) ρ)) ((fun ρ => consO (valO ((fun ρ => rdV ρ 3) ρ)) ((fun _ => some []) ρ)) ρ)) ρ).bind vals)).map D.tup) ρ)) ((fun ρ => consO (valO ((fun ρ => (shortO (((fun ρ => consO (valO ((fun ρ => rdV ρ 3) ρ)) ((fun ρ => consO (valO ((fun ρ => rdV ρ 3) ρ)) ((fun _ => some []) ρ)) ρ)) ρ).bind vals)).map D.tup) ρ)) ((fun _ => some []) ρ)) ρ)) ρ)) ρ).bind vals)) ρ)) ρ).bind seqItems) (bTup 2 (bCons (bName 6) (bCons (bName 7) bNil))) L_law_0)
noncomputable def P_law_7 : VE → Res := (fun ρ => setR 9 ((callO F_meet (fun ρ => consO (rdA ρ 3) ((fun ρ => consO (rdA ρ 4) ((fun _ => some []) ρ)) ρ))) ρ) ρ)
noncomputable def P_law_8 : VE → Res := (fun ρ => setR 10 ((callO F_join (fun ρ => consO (rdA ρ 3) ((fun ρ => consO (rdA ρ 4) ((fun _ => some []) ρ)) ρ))) ρ) ρ)
noncomputable def P_law_9 : VE → Res := (fun ρ => iteR ((fun ρ => orB ((fun ρ => notO ((fun ρ => truD ((callO F_law_levels (fun ρ => consO (rdA ρ 9) ((fun ρ => consO (rdA ρ 2) ((fun _ => some []) ρ)) ρ))) ρ)) ρ)) ρ) ((fun ρ => notO ((fun ρ => truD ((callO F_law_levels (fun ρ => consO (rdA ρ 10) ((fun ρ => consO (rdA ρ 2) ((fun _ => some []) ρ)) ρ))) ρ)) ρ)) ρ)) ρ) ((fun ρ => seqR ((fun ρ => retO ((fun _ => some (.bl false)) ρ)) ρ) (fun ρ => .next ρ)) ρ) ((fun ρ => .next ρ) ρ))
noncomputable def P_law_10 : VE → Res := (fun ρ => retO ((callO F_law_bounds_good (fun ρ => consO (rdA ρ 3) ((fun ρ => consO (rdA ρ 4) ((fun ρ => consO (rdA ρ 9) ((fun ρ => consO (rdA ρ 10) ((fun _ => some []) ρ)) ρ)) ρ)) ρ))) ρ))
noncomputable def S_law_11 : VE → Res := fun ρ => .next ρ
noncomputable def S_law_10 : VE → Res := fun ρ => seqR (P_law_10 ρ) S_law_11
noncomputable def S_law_9 : VE → Res := fun ρ => seqR (P_law_9 ρ) S_law_10
noncomputable def S_law_8 : VE → Res := fun ρ => seqR (P_law_8 ρ) S_law_9
noncomputable def S_law_7 : VE → Res := fun ρ => seqR (P_law_7 ρ) S_law_8
noncomputable def S_law_6 : VE → Res := fun ρ => seqR (P_law_6 ρ) S_law_7
noncomputable def S_law_5 : VE → Res := fun ρ => seqR (P_law_5 ρ) S_law_6
noncomputable def S_law_4 : VE → Res := fun ρ => seqR (P_law_4 ρ) S_law_5
noncomputable def S_law_3 : VE → Res := fun ρ => seqR (P_law_3 ρ) S_law_4
noncomputable def S_law_2 : VE → Res := fun ρ => seqR (P_law_2 ρ) S_law_3
noncomputable def S_law_1 : VE → Res := fun ρ => seqR (P_law_1 ρ) S_law_2
noncomputable def S_law_0 : VE → Res := fun ρ => seqR (P_law_0 ρ) S_law_1
noncomputable def g_law : VE → Res := S_law_0
noncomputable def F_law : List Sl → Option Rv := fnP 1 11 g_law
theorem cell_at_eq (s : Sl) (ns : List Int) (hs : s = .val (.lst (ns.map D.int)) ∨ s = .lent (ns.map D.int)) (k : Int) (h0 : 0 ≤ k) : F_law_cell_at [s, .val (.int k)] = some (.val (.int (ns.getD k.toNat 0))) := by
  by_cases h : k < ns.length
  · have hk : k.toNat < ns.length := by omega
    rcases hs with rfl | rfl <;> simp [F_law_cell_at, fnP, g_law_cell_at, h, atI, ixN, h0, hk]
  · have hk : ns.length ≤ k.toNat := by omega
    rcases hs with rfl | rfl <;> simp [F_law_cell_at, fnP, g_law_cell_at, h, hk]
/-- the drawn numbers -/
def strm (x : Int) : Nat → List Int
  | 0 => []
  | n + 1 => (x * 48271 % 2147483647) :: strm (x * 48271 % 2147483647) n
theorem strm_len : ∀ (n : Nat) (x : Int), (strm x n).length = n
  | 0, _ => rfl
  | n + 1, x => by simp [strm, strm_len n]
theorem strm_pos : ∀ (n : Nat) (x : Int), ∀ y ∈ strm x n, 0 ≤ y
  | 0, _, y, h => by cases h
  | n + 1, x, y, h => by
    simp only [strm, List.mem_cons] at h
    rcases h with rfl | h
    · omega
    · exact strm_pos n _ y h
theorem strm_run (s0 s1 : Sl) : ∀ (ds : List D) (x : Int) (acc : List Int) (s4 : Sl), acc.length + ds.length < 100000 → ∃ x' s4', forR (bName 4) L_law_stream_0 ds [s0, s1, .val (.int x), .own (acc.map D.int), s4] = .next [s0, s1, .val (.int x'), .own ((acc ++ strm x ds.length).map D.int), s4']
  | [], x, acc, s4, _ => ⟨x, s4, by simp [forR, strm]⟩
  | d :: ds, x, acc, s4, h => by
    simp only [List.length_cons] at h
    obtain ⟨x', s4', e⟩ := strm_run s0 s1 ds (x * 48271 % 2147483647) (acc ++ [x * 48271 % 2147483647]) (.val d) (by simp; omega)
    have hz : acc.length < sizeLine := Nat.lt_of_lt_of_le (show acc.length < 100000 by omega) (by decide)
    have hm : CMul x 48271 := by right; decide
    refine ⟨x', s4', ?_⟩
    simp [forR, L_law_stream_0, hz, hm, strm] at e ⊢
    exact e
theorem stream_eq (c : Int) (many : Nat) (hm : many < 1000) : ∃ ws : List Int, F_law_stream [.val (.int c), .val (.int (many : Int))] = some (.val (.lst (ws.map D.int))) ∧ ws.length = many ∧ ∀ y ∈ ws, 0 ≤ y := by
  have hr : rng1 [.int ((many : Int) + 2)] = some ((List.range (many + 2)).map fun (k : Nat) => D.int (k : Int)) := by
    have := rng1_nat (many + 2) (by omega)
    simpa using this
  obtain ⟨x', s4', e⟩ := strm_run (.val (.int c)) (.val (.int (many : Int))) ((List.range (many + 2)).map fun (k : Nat) => D.int (k : Int)) (1 + c % 2147483646) [] .no (by simp; omega)
  have hc : cutD ((strm (1 + c % 2147483646) (many + 2)).map D.int) (some 2) none = ((strm (1 + c % 2147483646) (many + 2)).drop 2).map D.int := by rw [cutD_map, cut_from _ _ (by omega)]; rfl
  refine ⟨(strm (1 + c % 2147483646) (many + 2)).drop 2, ?_, by simp [strm_len], fun y hy => strm_pos _ _ y (List.mem_of_mem_drop hy)⟩
  simp at e
  simp [F_law_stream, fnP, g_law_stream, S_law_stream_0, P_law_stream_0, S_law_stream_1, P_law_stream_1, S_law_stream_2, P_law_stream_2, S_law_stream_3, P_law_stream_3, hr, e, hc]
/-- a grain -/
def gr (xs : List Int) : D := .tup (xs.map D.int)
def fine : List Int → List Int → Bool
  | x :: xs, y :: ys => decide (x ≤ y) && fine xs ys
  | _, _ => true
theorem at_int {xs : List Int} {k : Nat} {x : Int} (h : xs[k]? = some x) : atI (xs.map D.int) ((k : Nat) : Int) = some (.int x) := atI_nat (by rw [List.getElem?_map, h]; rfl)
theorem fine_run (xs ys : List Int) (h : xs.length = ys.length) : ∀ (n k : Nat) (s : Sl), k + n = xs.length → ∃ s', forR (bName 2) L_law_fine_0 ((List.range' k n).map fun (k : Nat) => D.int (k : Int)) [.val (gr xs), .val (gr ys), s] =
    if fine (xs.drop k) (ys.drop k) then .next [.val (gr xs), .val (gr ys), s'] else .ret (.val (.bl false))
  | 0, k, s, hk => ⟨s, by
    have e1 : xs.drop k = [] := List.drop_eq_nil_of_le (by omega)
    simp [forR, e1, fine]⟩
  | n + 1, k, s, hk => by
    have kx : k < xs.length := by omega
    have ky : k < ys.length := by omega
    obtain ⟨s', e⟩ := fine_run xs ys h n (k + 1) (.val (.int (k : Int))) (by omega)
    refine ⟨s', ?_⟩
    have ex := at_int (List.getElem?_eq_getElem kx)
    have ey := at_int (List.getElem?_eq_getElem ky)
    rw [List.drop_eq_getElem_cons kx, List.drop_eq_getElem_cons ky]
    simp only [gr] at e ⊢
    by_cases hc : xs[k] ≤ ys[k]
    · have hc' : ¬ ys[k] < xs[k] := by omega
      simp only [List.range'_succ, List.map_cons, forR, bName, List.set_cons_succ, List.set_cons_zero, fine, hc, decide_true, Bool.true_and, ← e]
      simp [L_law_fine_0, ex, ey, hc']
    · have hc' : ys[k] < xs[k] := by omega
      simp [List.range'_succ, forR, L_law_fine_0, ex, ey, hc', fine, hc]
theorem fine_eq (xs ys : List Int) (h : xs.length = ys.length) (hz : xs.length < 1000) : F_law_fine [.val (gr xs), .val (gr ys)] = some (.val (.bl (fine xs ys))) := by
  obtain ⟨s', e⟩ := fine_run xs ys h xs.length 0 .no (by omega)
  have hr := rng1_nat xs.length (by omega)
  rw [← List.range_eq_range'] at e
  simp only [gr, List.drop_zero] at e ⊢
  cases hf : fine xs ys
  · rw [hf, if_neg (by decide)] at e
    simp [F_law_fine, fnP, g_law_fine, hr, e]
  · rw [hf, if_pos rfl] at e
    simp [F_law_fine, fnP, g_law_fine, hr, e]
theorem zip_ints : ∀ (xs ys : List Int), List.zipWith (fun x y => D.tup [x, y]) (xs.map D.int) (ys.map D.int) = (List.zip xs ys).map fun p => D.tup [.int p.1, .int p.2]
  | [], _ => by simp
  | x :: xs, [] => by simp
  | x :: xs, y :: ys => by simp [zip_ints xs ys]
theorem fine_all : ∀ (xs ys : List Int), ((List.zip xs ys).map fun p => decide (p.1 ≤ p.2)).all id = fine xs ys
  | [], _ => by simp [fine]
  | x :: xs, [] => by simp [fine]
  | x :: xs, y :: ys => by
    have := fine_all xs ys
    simp only [List.zip_cons_cons, List.map_cons, List.all_cons, id, fine, this]
theorem zipN (xs ys : List Int) (h : xs.length < 1000) : min xs.length ys.length ≤ sizeLine := Nat.le_trans (Nat.min_le_left ..) (Nat.le_trans (Nat.le_of_lt h) (by decide))
theorem comp_zip (e : VE → Option D) (F : Int × Int → D) (h : ∀ x y : Int, e [.val (.int x), .val (.int y)] = some (F (x, y))) (xs ys : List Int) :
    compL (bTup 2 (bCons (bName 0) (bCons (bName 1) bNil))) (fun _ => some true) e [.no, .no] ((List.zip xs ys).map fun p => D.tup [.int p.1, .int p.2]) = some ((List.zip xs ys).map F) :=
  compL_map (fun p : Int × Int => D.tup [.int p.1, .int p.2]) F _ fun p _ => ⟨[.val (.int p.1), .val (.int p.2)], rfl, h p.1 p.2⟩
theorem as_fine_eq (xs ys : List Int) (hz : xs.length < 1000) : F_as_fine [.val (gr xs), .val (gr ys)] = some (.val (.bl (fine xs ys))) := by
  have h1 := comp_zip C_as_fine_0 (fun p => .bl (decide (p.1 ≤ p.2))) (fun x y => by simp [C_as_fine_0]) xs ys
  have h2 : ((List.zip xs ys).map fun p => D.bl (decide (p.1 ≤ p.2))) = ((List.zip xs ys).map fun p => decide (p.1 ≤ p.2)).map D.bl := by simp
  have hl := zipN xs ys hz
  have h3 := fine_all xs ys
  rw [h2] at h1
  have h4 : ((List.zip xs ys).map fun p => decide (p.1 ≤ p.2)).all (fun x => x) = fine xs ys := h3
  simp only [gr]
  simp [F_as_fine, fnP, g_as_fine, -List.zipWith_map, zip_ints, hl, h1, -List.map_map, -List.all_map, h3, h4]
theorem zipped (f : Int → Int → Int) : ∀ (xs ys : List Int), ((List.zip xs ys).map fun p => D.int (f p.1 p.2)) = (List.zipWith f xs ys).map D.int
  | [], _ => by simp
  | x :: xs, [] => by simp
  | x :: xs, y :: ys => by simp [zipped f xs ys]
theorem meet_eq (xs ys : List Int) (hz : xs.length < 1000) : F_meet [.val (gr xs), .val (gr ys)] = some (.val (gr (List.zipWith min xs ys))) := by
  have h1 := comp_zip C_meet_0 (fun p => .int (min p.1 p.2)) (fun x y => by simp [C_meet_0]; split <;> omega) xs ys
  rw [zipped min] at h1
  have hl := zipN xs ys hz
  simp only [gr]
  simp [F_meet, fnP, g_meet, -List.zipWith_map, zip_ints, hl, h1, -List.map_map]
theorem join_eq (xs ys : List Int) (hz : xs.length < 1000) : F_join [.val (gr xs), .val (gr ys)] = some (.val (gr (List.zipWith max xs ys))) := by
  have h1 := comp_zip C_join_0 (fun p => .int (max p.1 p.2)) (fun x y => by simp [C_join_0]; split <;> omega) xs ys
  rw [zipped max] at h1
  have hl := zipN xs ys hz
  simp only [gr]
  simp [F_join, fnP, g_join, -List.zipWith_map, zip_ints, hl, h1, -List.map_map]
theorem levels_run (s0 s1 : Sl) : ∀ (xs : List Int) (s : Sl), (∀ x ∈ xs, 0 ≤ x ∧ x ≤ 4) → ∃ s', forR (bName 2) L_law_levels_0 (xs.map D.int) [s0, s1, s] = .next [s0, s1, s']
  | [], s, _ => ⟨s, rfl⟩
  | x :: xs, s, h => by
    obtain ⟨s', e⟩ := levels_run s0 s1 xs (.val (.int x)) fun y hy => h y (List.mem_cons_of_mem _ hy)
    have hx := h x List.mem_cons_self
    refine ⟨s', ?_⟩
    simp [forR, L_law_levels_0, hx.1, hx.2, e]
theorem levels_eq (xs : List Int) (h : ∀ x ∈ xs, 0 ≤ x ∧ x ≤ 4) : F_law_levels [.val (gr xs), .val (.int (xs.length : Nat))] = some (.val (.bl true)) := by
  obtain ⟨s', e⟩ := levels_run (.val (gr xs)) (.val (.int (xs.length : Nat))) xs .no h
  simp only [gr] at e ⊢
  simp [F_law_levels, fnP, g_law_levels, e]
/-- all grains -/
def ext5 (g : List Int) : List (List Int) := (List.range 5).map fun (k : Nat) => g ++ [(k : Int)]
theorem ext5_len (g : List Int) : (ext5 g).length = 5 := by simp [ext5]
def exts (gs : List (List Int)) : List (List Int) := gs.flatMap ext5
theorem exts_len : ∀ gs, (exts gs).length = 5 * gs.length
  | [] => rfl
  | g :: gs => by
    have := exts_len gs
    simp only [exts, List.flatMap_cons, List.length_append, ext5_len, List.length_cons] at this ⊢
    omega
theorem ext_elt (g : List Int) (k : Nat) (hg : g.length < 1000) : C_law_all_0 [.val (.int (k : Int)), .val (gr g)] = some (gr (g ++ [(k : Int)])) := by
  have := addD_tup (g.map D.int) [.int (k : Int)] (by simp; omega)
  have two : 1 ≤ sizeLine := by decide
  simp only [gr]
  simp [C_law_all_0, -addD, this, two]
theorem ext_comp (g : List Int) (hg : g.length < 1000) : compL (bName 0) (fun _ => some true) C_law_all_0 [.no, .val (gr g)] ((List.range 5).map fun (k : Nat) => D.int (k : Int)) = some ((ext5 g).map gr) := by
  rw [compL_map (fun k : Nat => D.int (k : Int)) (fun k : Nat => gr (g ++ [(k : Int)])) _ fun k _ => ⟨[.val (.int (k : Int)), .val (gr g)], rfl, ext_elt g k hg⟩]
  simp [ext5]
theorem all_in (s0 s1 s2 : Sl) : ∀ (gs acc : List (List Int)) (s4 : Sl), (∀ g ∈ gs, g.length < 1000) → acc.length + 5 * gs.length ≤ 1000000 → ∃ s4', forR (bName 4) L_law_all_0 (gs.map gr) [s0, s1, s2, .val (.lst (acc.map gr)), s4] = .next [s0, s1, s2, .val (.lst ((acc ++ exts gs).map gr)), s4']
  | [], acc, s4, _, _ => ⟨s4, by simp [forR, exts]⟩
  | g :: gs, acc, s4, h, hz => by
    simp only [List.length_cons] at hz
    obtain ⟨s4', e⟩ := all_in s0 s1 s2 gs (acc ++ ext5 g) (.val (gr g)) (fun x hx => h x (List.mem_cons_of_mem _ hx)) (by simp [ext5_len]; omega)
    have hc := ext_comp g (h g List.mem_cons_self)
    have ha := addD_lst (acc.map gr) ((ext5 g).map gr) (by simp [ext5_len]; omega)
    have hr : rng1 [.int 5] = some ((List.range 5).map fun (k : Nat) => D.int (k : Int)) := rng1_nat 5 (by omega)
    have five : 5 ≤ sizeLine := by decide
    refine ⟨s4', ?_⟩
    rw [← List.map_append] at ha
    have hx : exts (g :: gs) = ext5 g ++ exts gs := rfl
    rw [hx, ← List.append_assoc]
    generalize hL : ((List.range 5).map fun (k : Nat) => D.int (k : Int)) = L5 at hc hr
    have hl5 : L5.length = 5 := by rw [← hL]; simp
    simp only [List.map_cons, forR, bName, List.set_cons_succ, List.set_cons_zero]
    rw [show L_law_all_0 [s0, s1, s2, Sl.val (D.lst (acc.map gr)), Sl.val (gr g)] = .next [s0, s1, s2, Sl.val (D.lst ((acc ++ ext5 g).map gr)), Sl.val (gr g)] by
      simp [L_law_all_0, hr, hl5, five, compIn, hc, -addD, -List.map_append, ha]]
    exact e
def alls : Nat → List (List Int)
  | 0 => [[]]
  | n + 1 => exts (alls n)
theorem alls_size : ∀ n, (alls n).length = 5 ^ n
  | 0 => rfl
  | n + 1 => by rw [alls, exts_len, alls_size n, Nat.pow_succ, Nat.mul_comm]
theorem alls_len : ∀ n, ∀ g ∈ alls n, g.length = n
  | 0, g, h => by simp [alls] at h; simp [h]
  | n + 1, g, h => by
    simp only [alls, exts, List.mem_flatMap, ext5, List.mem_map] at h
    obtain ⟨g', h1, k, _, rfl⟩ := h
    simp [alls_len n g' h1]
theorem all_out (s0 : Sl) : ∀ (n m : Nat) (ds : List D) (s2 s3 s4 : Sl), ds.length = n → n + m ≤ 4 → ∃ s2' s3' s4', forR (bName 2) L_law_all_1 ds [s0, .val (.lst ((alls m).map gr)), s2, s3, s4] = .next [s0, .val (.lst ((alls (m + n)).map gr)), s2', s3', s4']
  | 0, m, [], s2, s3, s4, _, _ => ⟨s2, s3, s4, rfl⟩
  | n + 1, m, d :: ds, s2, s3, s4, hn, hm => by
    have hs := alls_size m
    have hp : 5 ^ m ≤ 5 ^ 4 := Nat.pow_le_pow_right (by omega) (by omega)
    obtain ⟨s4a, e1⟩ := all_in s0 (.val (.lst ((alls m).map gr))) (.val d) (alls m) [] s4 (fun g hg => by have := alls_len m g hg; omega) (by simp; omega)
    obtain ⟨s2', s3', s4', e2⟩ := all_out s0 n (m + 1) ds (.val d) (.val (.lst ((alls (m + 1)).map gr))) s4a (by simpa using hn) (by omega)
    refine ⟨s2', s3', s4', ?_⟩
    rw [show m + (n + 1) = m + 1 + n by omega]
    simp only [List.map_nil, List.nil_append] at e1
    simp only [forR, bName, List.set_cons_succ, List.set_cons_zero]
    rw [show L_law_all_1 [s0, .val (.lst ((alls m).map gr)), .val d, s3, s4] = .next [s0, .val (.lst ((alls (m + 1)).map gr)), .val d, .val (.lst ((alls (m + 1)).map gr)), s4a] by
      simp [L_law_all_1, e1, alls]]
    exact e2
theorem all_eq (m : Nat) (hm : m ≤ 4) : F_law_all [.val (.int (m : Int))] = some (.val (.lst ((alls m).map gr))) := by
  obtain ⟨s2', s3', s4', e⟩ := all_out (.val (.int (m : Int))) m 0 ((List.range m).map fun (k : Nat) => D.int (k : Int)) .no .no .no (by simp) (by omega)
  have hr := rng1_nat m (by omega)
  have one : 1 ≤ sizeLine := by decide
  rw [Nat.zero_add] at e
  have h0 : (alls 0).map gr = [.tup []] := rfl
  rw [h0] at e
  simp [F_law_all, fnP, g_law_all, one, hr, e]
theorem fine_low : ∀ (g xs ys : List Int), g.length = xs.length → g.length = ys.length → (fine g xs && fine g ys) = fine g (List.zipWith min xs ys)
  | [], [], [], _, _ => rfl
  | a :: g, x :: xs, y :: ys, h1, h2 => by
    have := fine_low g xs ys (by simpa using h1) (by simpa using h2)
    simp only [fine, List.zipWith_cons_cons, ← this]
    have e : decide (a ≤ min x y) = (decide (a ≤ x) && decide (a ≤ y)) := by rw [Bool.eq_iff_iff]; simp; omega
    rw [e]
    cases decide (a ≤ x) <;> cases decide (a ≤ y) <;> cases fine g xs <;> simp
theorem fine_high : ∀ (g xs ys : List Int), g.length = xs.length → g.length = ys.length → (fine xs g && fine ys g) = fine (List.zipWith max xs ys) g
  | [], [], [], _, _ => rfl
  | a :: g, x :: xs, y :: ys, h1, h2 => by
    have := fine_high g xs ys (by simpa using h1) (by simpa using h2)
    simp only [fine, List.zipWith_cons_cons, ← this]
    have e : decide (max x y ≤ a) = (decide (x ≤ a) && decide (y ≤ a)) := by rw [Bool.eq_iff_iff]; simp; omega
    rw [e]
    cases decide (x ≤ a) <;> cases decide (y ≤ a) <;> cases fine xs g <;> simp
theorem good_turn (one other : List Int) (m : Nat) (hm : m ≤ 4) (h1 : one.length = m) (h2 : other.length = m) (g : List Int) (hg : g.length = m) (s5 s6 : Sl) :
    L_law_bounds_good_0 [.val (gr one), .val (gr other), .val (gr (List.zipWith min one other)), .val (gr (List.zipWith max one other)), .val (gr g), s5, s6] =
      .next [.val (gr one), .val (gr other), .val (gr (List.zipWith min one other)), .val (gr (List.zipWith max one other)), .val (gr g), .val (.bl (fine g (List.zipWith min one other))), .val (.bl (fine (List.zipWith max one other) g))] := by
  have l1 := fine_low g one other (by omega) (by omega)
  have l2 := fine_high g one other (by omega) (by omega)
  have e1 := fine_eq g one (by omega) (by omega)
  have e2 := fine_eq g other (by omega) (by omega)
  have e3 := fine_eq one g (by omega) (by omega)
  have e4 := fine_eq other g (by omega) (by omega)
  have e5 := fine_eq g (List.zipWith min one other) (by simp; omega) (by omega)
  have e6 := fine_eq (List.zipWith max one other) g (by simp; omega) (by simp; omega)
  rw [← l1] at e5 ⊢
  rw [← l2] at e6 ⊢
  generalize fine g one = b1 at *
  generalize fine g other = b2 at *
  generalize fine one g = b3 at *
  generalize fine other g = b4 at *
  cases b1 <;> cases b2 <;> cases b3 <;> cases b4 <;> simp [L_law_bounds_good_0, e1, e2, e3, e4, e5, e6]
theorem good_run (one other : List Int) (m : Nat) (hm : m ≤ 4) (h1 : one.length = m) (h2 : other.length = m) : ∀ (gs : List (List Int)) (s4 s5 s6 : Sl), (∀ g ∈ gs, g.length = m) → ∃ s4' s5' s6',
    forR (bName 4) L_law_bounds_good_0 (gs.map gr) [.val (gr one), .val (gr other), .val (gr (List.zipWith min one other)), .val (gr (List.zipWith max one other)), s4, s5, s6] =
      .next [.val (gr one), .val (gr other), .val (gr (List.zipWith min one other)), .val (gr (List.zipWith max one other)), s4', s5', s6']
  | [], s4, s5, s6, _ => ⟨s4, s5, s6, rfl⟩
  | g :: gs, s4, s5, s6, h => by
    obtain ⟨s4', s5', s6', e⟩ := good_run one other m hm h1 h2 gs (.val (gr g)) (.val (.bl (fine g (List.zipWith min one other)))) (.val (.bl (fine (List.zipWith max one other) g))) fun x hx => h x (List.mem_cons_of_mem _ hx)
    refine ⟨s4', s5', s6', ?_⟩
    simp only [List.map_cons, forR, bName, List.set_cons_succ, List.set_cons_zero, good_turn one other m hm h1 h2 g (h g List.mem_cons_self) s5 s6, e]
theorem good_eq (one other : List Int) (m : Nat) (hm : m ≤ 4) (h1 : one.length = m) (h2 : other.length = m) :
    F_law_bounds_good [.val (gr one), .val (gr other), .val (gr (List.zipWith min one other)), .val (gr (List.zipWith max one other))] = some (.val (.bl true)) := by
  obtain ⟨s4', s5', s6', e⟩ := good_run one other m hm h1 h2 (alls m) .no .no .no (alls_len m)
  have ha := all_eq m hm
  rw [← h1] at ha e
  simp only [show gr one = .tup (one.map D.int) from rfl] at e ⊢
  simp [F_law_bounds_good, fnP, g_law_bounds_good, ha, e]
theorem inR {f : Int → Int → Int} (hf : ∀ x y, f x y = x ∨ f x y = y) : ∀ (xs ys : List Int), (∀ x ∈ xs, 0 ≤ x ∧ x ≤ 4) → (∀ x ∈ ys, 0 ≤ x ∧ x ≤ 4) → ∀ z ∈ List.zipWith f xs ys, 0 ≤ z ∧ z ≤ 4
  | x :: xs, y :: ys, h1, h2, z, hz => by
    simp only [List.zipWith_cons_cons, List.mem_cons] at hz
    rcases hz with rfl | hz
    · rcases hf x y with e | e <;> rw [e]
      · exact h1 x List.mem_cons_self
      · exact h2 y List.mem_cons_self
    · exact inR hf xs ys (fun x hx => h1 x (List.mem_cons_of_mem _ hx)) (fun x hx => h2 x (List.mem_cons_of_mem _ hx)) z hz
theorem ask_turn (s0 s1 s2 s3 s4 s5 s6 s7 s8 s9 s10 : Sl) (xs ys : List Int) (h : xs.length = ys.length) (hz : xs.length < 1000) :
    L_law_0 [s0, s1, s2, s3, s4, s5, .val (gr xs), .val (gr ys), s8, s9, s10] = .next [s0, s1, s2, s3, s4, s5, .val (gr xs), .val (gr ys), .val (.bl (fine xs ys)), s9, s10] := by
  have e1 := as_fine_eq xs ys hz
  have e2 := fine_eq xs ys h hz
  simp [L_law_0, e1, e2]
theorem tail6 (s0 s1 s5 : Sl) (one other : List Int) (m : Nat) (hm : m ≤ 4) (h1 : one.length = m) (h2 : other.length = m) (r1 : ∀ x ∈ one, 0 ≤ x ∧ x ≤ 4) (r2 : ∀ x ∈ other, 0 ≤ x ∧ x ≤ 4) :
    S_law_6 [s0, s1, .val (.int (m : Int)), .val (gr one), .val (gr other), s5, .no, .no, .no, .no, .no] = .ret (.val (.bl true)) := by
  have a1 := fun t8 => ask_turn s0 s1 (.val (.int (m : Int))) (.val (gr one)) (.val (gr other)) s5 .no .no t8 .no .no one other (by omega) (by omega)
  have a2 := fun t8 => ask_turn s0 s1 (.val (.int (m : Int))) (.val (gr one)) (.val (gr other)) s5 .no .no t8 .no .no other one (by omega) (by omega)
  have a3 := fun t8 => ask_turn s0 s1 (.val (.int (m : Int))) (.val (gr one)) (.val (gr other)) s5 .no .no t8 .no .no one one rfl (by omega)
  have two : 2 ≤ sizeLine := by decide
  have three : 3 ≤ sizeLine := by decide
  have e1 := meet_eq one other (by omega)
  have e2 := join_eq one other (by omega)
  have l1 := levels_eq (List.zipWith min one other) (inR (fun x y => by omega) _ _ r1 r2)
  have l2 := levels_eq (List.zipWith max one other) (inR (fun x y => by omega) _ _ r1 r2)
  rw [show (List.zipWith min one other).length = m by simp; omega] at l1
  rw [show (List.zipWith max one other).length = m by simp; omega] at l2
  have g := good_eq one other m hm h1 h2
  generalize gr one = o1 at *
  generalize gr other = o2 at *
  simp [S_law_6, P_law_6, S_law_7, P_law_7, S_law_8, P_law_8, S_law_9, P_law_9, S_law_10, P_law_10, two, three, forR, bTup, bCons, bNil, a1, a2, a3, e1, e2, l1, l2, g]
theorem comp_rng {e : VE → Option D} {r : VE} {F : Nat → D} (m : Nat) (h : ∀ k, k < m → e (.val (.int (k : Int)) :: r) = some (F k)) :
    compL (bName 0) (fun _ => some true) e (.no :: r) ((List.range m).map fun (k : Nat) => D.int (k : Int)) = some ((List.range m).map F) :=
  compL_map (fun k : Nat => D.int (k : Int)) F _ fun k hk => ⟨.val (.int (k : Int)) :: r, rfl, h k (List.mem_range.mp hk)⟩
theorem one_elt (ns : List Int) (k : Nat) : C_law_0 [.val (.int (k : Int)), .val (.lst (ns.map D.int))] = some (.int (ns.getD (1 + k) 0 / 5 % 5)) := by
  have h : F_law_cell_at [.val (.lst (ns.map D.int)), .val (.int (1 + (k : Int)))] = some (.val (.int (ns.getD (1 + k) 0))) := by
    have := cell_at_eq _ ns (.inl rfl) (1 + (k : Int)) (by omega)
    rw [show (1 + (k : Int)).toNat = 1 + k by omega] at this
    exact this
  generalize ns.getD (1 + k) 0 = c at *
  simp [C_law_0, h, CDiv]
theorem other_elt (ns ws : List Int) (k : Nat) (hk : k < 4) (hw : ws.length = 6) : C_law_1 [.val (.int (k : Int)), .val (.lst (ns.map D.int)), .val (.lst (ws.map D.int))] = some (.int ((ns.getD (5 + k) 0 + ws.getD (2 + k) 0) % 5)) := by
  have h : F_law_cell_at [.val (.lst (ns.map D.int)), .val (.int (5 + (k : Int)))] = some (.val (.int (ns.getD (5 + k) 0))) := by
    have := cell_at_eq _ ns (.inl rfl) (5 + (k : Int)) (by omega)
    rw [show (5 + (k : Int)).toNat = 5 + k by omega] at this
    exact this
  have hi : atI (ws.map D.int) (2 + (k : Int)) = some (.int (ws.getD (2 + k) 0)) := by
    have hl : 2 + k < ws.length := by omega
    have := at_int (List.getElem?_eq_getElem hl)
    rw [show (((2 + k : Nat)) : Int) = 2 + (k : Int) by omega] at this
    rw [this]
    simp [List.getD_eq_getElem?_getD, hl]
  generalize ns.getD (5 + k) 0 = c at *
  generalize ws.getD (2 + k) 0 = v at *
  simp [C_law_1, h, hi]
theorem tail4 (s0 : Sl) (ws : List Int) (hw : ws.length = 6) (hp : ∀ y ∈ ws, 0 ≤ y) (one other : List Int) (m : Nat) (h0 : 0 < m) (hm : m ≤ 4) (h1 : one.length = m) (h2 : other.length = m) (r1 : ∀ x ∈ one, 0 ≤ x ∧ x ≤ 4) (r2 : ∀ x ∈ other, 0 ≤ x ∧ x ≤ 4) :
    S_law_4 [s0, .val (.lst (ws.map D.int)), .val (.int (m : Int)), .val (gr one), .val (gr other), .no, .no, .no, .no, .no, .no] = .ret (.val (.bl true)) := by
  obtain ⟨w, hi, hwp⟩ : ∃ w, atI (ws.map D.int) 1 = some (.int w) ∧ 0 ≤ w := by
    have hl : 1 < ws.length := by omega
    exact ⟨ws[1], at_int (List.getElem?_eq_getElem hl), hp _ (List.getElem_mem _)⟩
  by_cases c1 : w % 4 = 1
  · have t6 := tail6 s0 (.val (.lst (ws.map D.int))) .no one one m hm h1 h1 r1 r1
    have c2 : ¬ w % 4 = 2 := by omega
    simp [S_law_4, P_law_4, S_law_5, P_law_5, hi, c1, t6]
  · by_cases c2 : w % 4 = 2
    · have hmp : (0 : Int) < (m : Int) := by omega
      obtain ⟨k, hk, hkm⟩ : ∃ k : Nat, w / 4 % (m : Int) = (k : Int) ∧ k < m := by
        have a1 := Int.emod_nonneg (w / 4) (show (m : Int) ≠ 0 by omega)
        have a2 := Int.emod_lt_of_pos (w / 4) hmp
        exact ⟨(w / 4 % (m : Int)).toNat, by omega, by omega⟩
      have hkl : k < one.length := by omega
      have hx := at_int (List.getElem?_eq_getElem hkl)
      have t6 := tail6 s0 (.val (.lst (ws.map D.int))) (.val (.int (k : Int))) one (one.take k ++ [(one[k] + 1) % 5] ++ one.drop (k + 1)) m hm h1 (by simp; omega) r1 (fun x hx => by
        simp only [List.mem_append, List.mem_singleton] at hx
        rcases hx with (hx | hx) | hx
        · exact r1 x (List.mem_of_mem_take hx)
        · omega
        · exact r1 x (List.mem_of_mem_drop hx))
      have k1 : cutD (one.map D.int) none (some ((k : Nat) : Int)) = (one.take k).map D.int := by rw [cutD_map, cut_to _ _ (by omega)]; congr 1
      have k2 : cutD (one.map D.int) (some ((k : Nat) + 1 : Int)) none = (one.drop (k + 1)).map D.int := by rw [cutD_map, cut_from _ _ (by omega)]; congr 1
      have oneL : 1 ≤ sizeLine := by decide
      have ad1 := addD_tup ((one.take k).map D.int) [.int ((one[k] + 1) % 5)] (by simp; omega)
      have ad2 := addD_tup ((one.take k).map D.int ++ [.int ((one[k] + 1) % 5)]) ((one.drop (k + 1)).map D.int) (by simp; omega)
      have ad3 : addD (.int one[k]) (.int 1) = some (.int (one[k] + 1)) := rfl
      have ad4 : addD (.int (k : Int)) (.int 1) = some (.int ((k : Int) + 1)) := rfl
      simp only [gr, List.map_append, List.map_cons, List.map_nil] at t6
      simp only [gr]
      simp [S_law_4, P_law_4, S_law_5, P_law_5, hi, c1, c2, hmp, h0, hk, CDiv, hx, k1, k2, oneL, -addD, -List.map_take, -List.map_drop, -List.append_assoc, ad1, ad2, ad3, ad4, t6]
    · have t6 := tail6 s0 (.val (.lst (ws.map D.int))) .no one other m hm h1 h2 r1 r2
      simp [S_law_4, P_law_4, S_law_5, P_law_5, hi, c1, c2, t6]
theorem law_true (ns : List Int) (hl : ns.length ≤ 63) : F_law [.val (.lst (ns.map D.int))] = some (.val (.bl true)) := by
  have h0 : F_law_cell_at [.val (.lst (ns.map D.int)), .val (.int 0)] = some (.val (.int (ns.getD 0 0))) := cell_at_eq _ ns (.inl rfl) 0 (by omega)
  obtain ⟨ws, hs, hw, hp⟩ := stream_eq (ns.getD 0 0) 6 (by omega)
  obtain ⟨m, hm1, hm4, hme⟩ : ∃ m : Nat, 0 < m ∧ m ≤ 4 ∧ ∃ w, atI (ws.map D.int) 0 = some (.int w) ∧ 1 + w % 4 = (m : Int) := by
    have hl : 0 < ws.length := by omega
    exact ⟨(1 + ws[0] % 4).toNat, by omega, by omega, ws[0], at_int (List.getElem?_eq_getElem hl), by omega⟩
  obtain ⟨w, hi, hwm⟩ := hme
  have c1 := comp_rng (e := C_law_0) (r := [.val (.lst (ns.map D.int))]) m fun k _ => one_elt ns k
  have c2 := comp_rng (e := C_law_1) (r := [.val (.lst (ns.map D.int)), .val (.lst (ws.map D.int))]) m fun k hk => other_elt ns ws k (by omega) hw
  have hr := rng1_nat m (by omega)
  have t4 := tail4 (.val (.lst (ns.map D.int))) ws hw hp ((List.range m).map fun k => ns.getD (1 + k) 0 / 5 % 5) ((List.range m).map fun k => (ns.getD (5 + k) 0 + ws.getD (2 + k) 0) % 5) m hm1 hm4 (by simp) (by simp)
    (fun x hx => by simp only [List.mem_map] at hx; obtain ⟨k, _, rfl⟩ := hx; omega) (fun x hx => by simp only [List.mem_map] at hx; obtain ⟨k, _, rfl⟩ := hx; omega)
  simp only [gr, List.map_map] at t4
  have e1 : (D.int ∘ fun k => ns.getD (1 + k) 0 / 5 % 5) = fun (k : Nat) => D.int (ns.getD (1 + k) 0 / 5 % 5) := rfl
  have e2 : (D.int ∘ fun k => (ns.getD (5 + k) 0 + ws.getD (2 + k) 0) % 5) = fun (k : Nat) => D.int ((ns.getD (5 + k) 0 + ws.getD (2 + k) 0) % 5) := rfl
  rw [e1, e2] at t4
  generalize ns.getD 0 0 = c0 at *
  generalize ((List.range m).map fun (k : Nat) => D.int (ns.getD (1 + k) 0 / 5 % 5)) = L1 at *
  generalize ((List.range m).map fun (k : Nat) => D.int ((ns.getD (5 + k) 0 + ws.getD (2 + k) 0) % 5)) = L2 at *
  have hlm : m ≤ sizeLine := Nat.le_trans hm4 (by decide)
  have hs' : F_law_stream [.val (.int c0), .val (.int 6)] = some (.val (.lst (ws.map D.int))) := hs
  simp [F_law, fnP, g_law, S_law_0, P_law_0, S_law_1, P_law_1, S_law_2, P_law_2, S_law_3, P_law_3, h0, hs', hi, hwm, hr, hlm, compIn, c1, c2, t4]

def top (i : Nat) : Stmt := PySem.Challenge.pw_cubebook_k21_meets_and_joins.main.body.getD i (.Pass ⟨0, 0, 0, 0⟩)
abbrev s_as_fine : Stmt := top 1
abbrev s_meet : Stmt := top 2
abbrev s_join : Stmt := top 3
abbrev s_law_cell_at : Stmt := top 5
abbrev s_law_stream : Stmt := top 6
abbrev s_law_fine : Stmt := top 7
abbrev s_law_levels : Stmt := top 8
abbrev s_law_all : Stmt := top 9
abbrev s_law_bounds_good : Stmt := top 10
abbrev s_law : Stmt := top 11
structure AD where
  a_as_fine : Addr
  d_as_fine : FuncData
  a_meet : Addr
  d_meet : FuncData
  a_join : Addr
  d_join : FuncData
  a_law_cell_at : Addr
  d_law_cell_at : FuncData
  a_law_stream : Addr
  d_law_stream : FuncData
  a_law_fine : Addr
  d_law_fine : FuncData
  a_law_levels : Addr
  d_law_levels : FuncData
  a_law_all : Addr
  d_law_all : FuncData
  a_law_bounds_good : Addr
  d_law_bounds_good : FuncData
  a_law : Addr
  d_law : FuncData
structure Tx (K : PySem.W.Frag) (mg : Str → Option Value) (d : AD) : Prop where
  m_as_fine : mg "as_fine" = some (.ref d.a_as_fine)
  F_as_fine : Fun K "as_fine" "as_fine" s_as_fine d.a_as_fine d.d_as_fine
  b_as_fine : Binds K d.d_as_fine ["one", "other"] []
  m_meet : mg "meet" = some (.ref d.a_meet)
  F_meet : Fun K "meet" "meet" s_meet d.a_meet d.d_meet
  b_meet : Binds K d.d_meet ["one", "other"] []
  m_join : mg "join" = some (.ref d.a_join)
  F_join : Fun K "join" "join" s_join d.a_join d.d_join
  b_join : Binds K d.d_join ["one", "other"] []
  m_law_cell_at : mg "_law_cell_at" = some (.ref d.a_law_cell_at)
  F_law_cell_at : Fun K "_law_cell_at" "_law_cell_at" s_law_cell_at d.a_law_cell_at d.d_law_cell_at
  b_law_cell_at : Binds K d.d_law_cell_at ["_law_script", "_law_k"] []
  m_law_stream : mg "_law_stream" = some (.ref d.a_law_stream)
  F_law_stream : Fun K "_law_stream" "_law_stream" s_law_stream d.a_law_stream d.d_law_stream
  b_law_stream : Binds K d.d_law_stream ["_law_cell", "_law_many"] []
  m_law_fine : mg "_law_fine" = some (.ref d.a_law_fine)
  F_law_fine : Fun K "_law_fine" "_law_fine" s_law_fine d.a_law_fine d.d_law_fine
  b_law_fine : Binds K d.d_law_fine ["_law_one", "_law_other"] []
  m_law_levels : mg "_law_levels" = some (.ref d.a_law_levels)
  F_law_levels : Fun K "_law_levels" "_law_levels" s_law_levels d.a_law_levels d.d_law_levels
  b_law_levels : Binds K d.d_law_levels ["_law_found", "_law_many"] []
  m_law_all : mg "_law_all" = some (.ref d.a_law_all)
  F_law_all : Fun K "_law_all" "_law_all" s_law_all d.a_law_all d.d_law_all
  b_law_all : Binds K d.d_law_all ["_law_many"] []
  m_law_bounds_good : mg "_law_bounds_good" = some (.ref d.a_law_bounds_good)
  F_law_bounds_good : Fun K "_law_bounds_good" "_law_bounds_good" s_law_bounds_good d.a_law_bounds_good d.d_law_bounds_good
  b_law_bounds_good : Binds K d.d_law_bounds_good ["_law_one", "_law_other", "_law_low", "_law_high"] []
  m_law : mg "law" = some (.ref d.a_law)
  F_law : Fun K "law" "law" s_law d.a_law d.d_law
  b_law : Binds K d.d_law ["_law_script"] []
  n_all : mg "all" = none
  n_bool : mg "bool" = none
  n_int : mg "int" = none
  n_isinstance : mg "isinstance" = none
  n_len : mg "len" = none
  n_max : mg "max" = none
  n_min : mg "min" = none
  n_range : mg "range" = none
  n_tuple : mg "tuple" = none
  n_zip : mg "zip" = none
section
variable {P : Program} {w : World} {K : PySem.W.Frag} {mg : Str → Option Value} {base : Heap} {d : AD}
theorem sc_as_fine : FnScope ["one", "other"] ["one", "other"] (defScope s_as_fine) := ⟨rfl, rfl, rfl, by decide +kernel, rfl, by decide +kernel, by decide +kernel⟩
theorem ok_as_fine (T : Tx K mg d) : FnOk P w K mg base CX0 1 d.a_as_fine d.d_as_fine ["one", "other"] (spD K F_as_fine) :=
  by
  refine fn_okJ (N := ["one", "other"]) (ps := ["one", "other"]) T.F_as_fine sc_as_fine (by decide) (g := g_as_fine) (fun cdv A outer s H E M H0 hr => ?_)
  refine j_conv (j_vs_cons (j_vs_ret (j_ve_callB (call_all rfl) rc_all (by rfl) T.n_all (by rfl) (j_va_cons (j_va_e (j_fd (j_vf_comp ["level", "other_level"] [] [] (show CompSc ["level", "other_level"] [] _ (defScope s_as_fine) from ⟨rfl, by decide +kernel, by decide +kernel, by decide +kernel, by decide +kernel, by decide +kernel⟩) rfl rfl  (j_vi_zip (by rfl) T.n_zip (j_vq 0) (j_vq 1)) (fun _ _ _ _ _ _ _ => (j_vg_tup (n := 2) rfl (j_vgs_cons (j_vg_name (i := 0) (show ((["level", "other_level"] : List Str) ++ ([] : List Str)).Nodup by decide +kernel) rfl (Or.inl rfl)) (j_vgs_cons (j_vg_name (i := 1) (show ((["level", "other_level"] : List Str) ++ ([] : List Str)).Nodup by decide +kernel) rfl (Or.inl rfl)) j_vgs_nil)))) (fun _ _ _ _ _ _ _ => j_vf_nil) (fun _ _ _ _ _ _ _ => (j_vc_le hr.units (j_vp 0) (j_vp 1))) (by decide)))) j_va_nil)))
      j_vs_nil) ?_
  rfl
theorem sc_meet : FnScope ["one", "other"] ["one", "other"] (defScope s_meet) := ⟨rfl, rfl, rfl, by decide +kernel, rfl, by decide +kernel, by decide +kernel⟩
theorem ok_meet (T : Tx K mg d) : FnOk P w K mg base CX0 1 d.a_meet d.d_meet ["one", "other"] (spD K F_meet) :=
  by
  refine fn_okJ (N := ["one", "other"]) (ps := ["one", "other"]) T.F_meet sc_meet (by decide) (g := g_meet) (fun cdv A outer s H E M H0 hr => ?_)
  refine j_conv (j_vs_cons (j_vs_ret (j_ve_callTy call_tuple_of rc_tuple (by rfl) T.n_tuple (by rfl) (j_va_cons (j_va_e (j_fd (j_vf_comp ["level", "other_level"] [] [] (show CompSc ["level", "other_level"] [] _ (defScope s_meet) from ⟨rfl, by decide +kernel, by decide +kernel, by decide +kernel, by decide +kernel, by decide +kernel⟩) rfl rfl  (j_vi_zip (by rfl) T.n_zip (j_vq 0) (j_vq 1)) (fun _ _ _ _ _ _ _ => (j_vg_tup (n := 2) rfl (j_vgs_cons (j_vg_name (i := 0) (show ((["level", "other_level"] : List Str) ++ ([] : List Str)).Nodup by decide +kernel) rfl (Or.inl rfl)) (j_vgs_cons (j_vg_name (i := 1) (show ((["level", "other_level"] : List Str) ++ ([] : List Str)).Nodup by decide +kernel) rfl (Or.inl rfl)) j_vgs_nil)))) (fun _ _ _ _ _ _ _ => j_vf_nil) (fun _ _ _ _ _ _ _ => (j_ve_callB (call_min2 rfl) rc_min2 (by rfl) T.n_min (by rfl) (j_va_cons (j_va 0) (j_va_cons (j_va 1) j_va_nil)))) (by decide)))) j_va_nil)))
      j_vs_nil) ?_
  rfl
theorem sc_join : FnScope ["one", "other"] ["one", "other"] (defScope s_join) := ⟨rfl, rfl, rfl, by decide +kernel, rfl, by decide +kernel, by decide +kernel⟩
theorem ok_join (T : Tx K mg d) : FnOk P w K mg base CX0 1 d.a_join d.d_join ["one", "other"] (spD K F_join) :=
  by
  refine fn_okJ (N := ["one", "other"]) (ps := ["one", "other"]) T.F_join sc_join (by decide) (g := g_join) (fun cdv A outer s H E M H0 hr => ?_)
  refine j_conv (j_vs_cons (j_vs_ret (j_ve_callTy call_tuple_of rc_tuple (by rfl) T.n_tuple (by rfl) (j_va_cons (j_va_e (j_fd (j_vf_comp ["level", "other_level"] [] [] (show CompSc ["level", "other_level"] [] _ (defScope s_join) from ⟨rfl, by decide +kernel, by decide +kernel, by decide +kernel, by decide +kernel, by decide +kernel⟩) rfl rfl  (j_vi_zip (by rfl) T.n_zip (j_vq 0) (j_vq 1)) (fun _ _ _ _ _ _ _ => (j_vg_tup (n := 2) rfl (j_vgs_cons (j_vg_name (i := 0) (show ((["level", "other_level"] : List Str) ++ ([] : List Str)).Nodup by decide +kernel) rfl (Or.inl rfl)) (j_vgs_cons (j_vg_name (i := 1) (show ((["level", "other_level"] : List Str) ++ ([] : List Str)).Nodup by decide +kernel) rfl (Or.inl rfl)) j_vgs_nil)))) (fun _ _ _ _ _ _ _ => j_vf_nil) (fun _ _ _ _ _ _ _ => (j_ve_callB (call_max2 rfl) rc_max2 (by rfl) T.n_max (by rfl) (j_va_cons (j_va 0) (j_va_cons (j_va 1) j_va_nil)))) (by decide)))) j_va_nil)))
      j_vs_nil) ?_
  rfl
theorem sc_law_cell_at : FnScope ["_law_script", "_law_k"] ["_law_script", "_law_k"] (defScope s_law_cell_at) := ⟨rfl, rfl, rfl, by decide +kernel, rfl, by decide +kernel, by decide +kernel⟩
theorem ok_law_cell_at (T : Tx K mg d) : FnOk P w K mg base CX0 1 d.a_law_cell_at d.d_law_cell_at ["_law_script", "_law_k"] (spD K F_law_cell_at) :=
  by
  refine fn_okJ (N := ["_law_script", "_law_k"]) (ps := ["_law_script", "_law_k"]) T.F_law_cell_at sc_law_cell_at (by decide) (g := g_law_cell_at) (fun cdv A outer s H E M H0 hr => ?_)
  refine j_conv (j_vs_cons (j_vs_if (j_vtc_lt hr.units (j_vp 1) (j_p (j_ve_callB call_len rc_len (by rfl) T.n_len (by rfl) (j_va_cons (j_va 0) j_va_nil))))
      (j_vs_cons (j_vs_ret (j_ve_item (j_vp 0) (j_vp 1) (fun _ _ => rfl)))
      j_vs_nil)
      j_vs_nil)
      (j_vs_cons (j_vs_ret j_ve_int)
      j_vs_nil)) ?_
  rfl
theorem sc_law_stream : FnScope ["_law_cell", "_law_many", "_law_number", "_law_found", "_law_k"] ["_law_cell", "_law_many"] (defScope s_law_stream) := ⟨rfl, rfl, rfl, by decide +kernel, rfl, by decide +kernel, by decide +kernel⟩
theorem ok_law_stream (T : Tx K mg d) : FnOk P w K mg base CX0 1 d.a_law_stream d.d_law_stream ["_law_cell", "_law_many"] (spD K F_law_stream) :=
  by
  refine fn_okJ (N := ["_law_cell", "_law_many", "_law_number", "_law_found", "_law_k"]) (ps := ["_law_cell", "_law_many"]) T.F_law_stream sc_law_stream (by decide) (g := g_law_stream) (fun cdv A outer s H E M H0 hr => ?_)
  refine j_conv (j_vs_cons (j_vs_set (i := 2) sc_law_stream.nd rfl (Or.inl rfl) (j_ve_add (j_p j_ve_int) (j_p (j_ve_mod (j_vp 0) (j_p j_ve_int)))))
      (j_vs_cons (j_vs_setF (i := 3) sc_law_stream.nd rfl (Or.inl rfl) (j_vf_lst j_va_nil))
      (j_vs_cons (j_vs_for PassesOwn.never rfl (j_vi_range1 (by rfl) T.n_range (j_va_cons (j_va_e (j_ve_add (j_vp 1) (j_p j_ve_int))) j_va_nil)) (j_vg_name (i := 4) sc_law_stream.nd rfl (Or.inl rfl))
      (j_vs_cons (j_vs_set (i := 2) sc_law_stream.nd rfl (Or.inl rfl) (j_ve_mod (j_p (j_ve_mul (j_vp 2) (j_p j_ve_int))) (j_p j_ve_int)))
      (j_vs_cons (j_vs_append (i := 3) rfl (by first | exact Or.inl rfl | exact Or.inr (Or.inl rfl)) (j_vv 2))
      j_vs_nil)))
      (j_vs_cons (j_vs_ret (j_ve_slice (j_vp 3) (j_vo_some (j_p j_ve_int)) j_vo_none))
      j_vs_nil)))) ?_
  rfl
theorem sc_law_fine : FnScope ["_law_one", "_law_other", "_law_k"] ["_law_one", "_law_other"] (defScope s_law_fine) := ⟨rfl, rfl, rfl, by decide +kernel, rfl, by decide +kernel, by decide +kernel⟩
theorem ok_law_fine (T : Tx K mg d) : FnOk P w K mg base CX0 1 d.a_law_fine d.d_law_fine ["_law_one", "_law_other"] (spD K F_law_fine) :=
  by
  refine fn_okJ (N := ["_law_one", "_law_other", "_law_k"]) (ps := ["_law_one", "_law_other"]) T.F_law_fine sc_law_fine (by decide) (g := g_law_fine) (fun cdv A outer s H E M H0 hr => ?_)
  refine j_conv (j_vs_cons (j_vs_for PassesOwn.never rfl (j_vi_range1 (by rfl) T.n_range (j_va_cons (j_va_e (j_ve_callB call_len rc_len (by rfl) T.n_len (by rfl) (j_va_cons (j_va 0) j_va_nil))) j_va_nil)) (j_vg_name (i := 2) sc_law_fine.nd rfl (Or.inl rfl))
      (j_vs_cons (j_vs_if (j_vtc_gt hr.units (j_p (j_ve_item (j_vp 0) (j_vp 2) (fun _ _ => rfl))) (j_p (j_ve_item (j_vp 1) (j_vp 2) (fun _ _ => rfl))))
      (j_vs_cons (j_vs_ret j_ve_bl)
      j_vs_nil)
      j_vs_nil)
      j_vs_nil))
      (j_vs_cons (j_vs_ret j_ve_bl)
      j_vs_nil)) ?_
  rfl
theorem sc_law_levels : FnScope ["_law_found", "_law_many", "_law_level"] ["_law_found", "_law_many"] (defScope s_law_levels) := ⟨rfl, rfl, rfl, by decide +kernel, rfl, by decide +kernel, by decide +kernel⟩
theorem ok_law_levels (T : Tx K mg d) : FnOk P w K mg base CX0 1 d.a_law_levels d.d_law_levels ["_law_found", "_law_many"] (spD K F_law_levels) :=
  by
  refine fn_okJ (N := ["_law_found", "_law_many", "_law_level"]) (ps := ["_law_found", "_law_many"]) T.F_law_levels sc_law_levels (by decide) (g := g_law_levels) (fun cdv A outer s H E M H0 hr => ?_)
  refine j_conv (j_vs_cons (j_vs_if (j_pt (j_vw_or (j_vt_not (j_vt_tru (j_p (j_ve_callB call_isD rc_is (by rfl) T.n_isinstance (by rfl) (j_va_cons (j_va 0) (j_va_cons (j_va_e (j_ve_tyn (n := "tuple") (by rfl) T.n_tuple (by rfl))) j_va_nil)))))) (j_vw_or1 (j_vtc_ne hr.units (j_p (j_ve_callB call_len rc_len (by rfl) T.n_len (by rfl) (j_va_cons (j_va 0) j_va_nil))) (j_vp 1)))))
      (j_vs_cons (j_vs_ret j_ve_bl)
      j_vs_nil)
      j_vs_nil)
      (j_vs_cons (j_vs_for PassesOwn.never rfl (j_vi_seq (j_vq 0)) (j_vg_name (i := 2) sc_law_levels.nd rfl (Or.inl rfl))
      (j_vs_cons (j_vs_if (j_pt (j_vw_or (j_vt_not (j_vt_tru (j_p (j_ve_callB call_isD rc_is (by rfl) T.n_isinstance (by rfl) (j_va_cons (j_va 2) (j_va_cons (j_va_e (j_ve_tyn (n := "int") (by rfl) T.n_int (by rfl))) j_va_nil)))))) (j_vw_or (j_vt_tru (j_p (j_ve_callB call_isD rc_is (by rfl) T.n_isinstance (by rfl) (j_va_cons (j_va 2) (j_va_cons (j_va_e (j_ve_tyn (n := "bool") (by rfl) T.n_bool (by rfl))) j_va_nil))))) (j_vw_or1 (j_vt_not (j_vtc_chain op_le op_le (r2_b0 _) (r2_b0 _) (j_p j_ve_int) (j_vp 2) (j_p j_ve_int)))))))
      (j_vs_cons (j_vs_ret j_ve_bl)
      j_vs_nil)
      j_vs_nil)
      j_vs_nil))
      (j_vs_cons (j_vs_ret j_ve_bl)
      j_vs_nil))) ?_
  rfl
theorem sc_law_all : FnScope ["_law_many", "_law_found", "_law_k", "_law_longer", "_law_grain"] ["_law_many"] (defScope s_law_all) := ⟨rfl, rfl, rfl, by decide +kernel, rfl, by decide +kernel, by decide +kernel⟩
theorem ok_law_all (T : Tx K mg d) : FnOk P w K mg base CX0 1 d.a_law_all d.d_law_all ["_law_many"] (spD K F_law_all) :=
  by
  refine fn_okJ (N := ["_law_many", "_law_found", "_law_k", "_law_longer", "_law_grain"]) (ps := ["_law_many"]) T.F_law_all sc_law_all (by decide) (g := g_law_all) (fun cdv A outer s H E M H0 hr => ?_)
  refine j_conv (j_vs_cons (j_vs_set (i := 1) sc_law_all.nd rfl (Or.inl rfl) (j_fd (j_vf_lst (j_va_cons (j_va_e (j_ve_tup j_va_nil)) j_va_nil))))
      (j_vs_cons (j_vs_for PassesOwn.never rfl (j_vi_range1 (by rfl) T.n_range (j_va_cons (j_va_e (j_vv 0)) j_va_nil)) (j_vg_name (i := 2) sc_law_all.nd rfl (Or.inl rfl))
      (j_vs_cons (j_vs_set (i := 3) sc_law_all.nd rfl (Or.inl rfl) (j_fd (j_vf_lst j_va_nil)))
      (j_vs_cons (j_vs_for PassesOwn.never rfl (j_vi_seq (j_vq 1)) (j_vg_name (i := 4) sc_law_all.nd rfl (Or.inr rfl))
      (j_vs_cons (j_vs_set (i := 3) sc_law_all.nd rfl (Or.inl rfl) (j_ve_add (j_vp 3) (j_p (j_fd (j_vf_comp ["_law_level"] ["_law_grain"] [4] (show CompSc ["_law_level"] ["_law_grain"] _ (defScope s_law_all) from ⟨rfl, by decide +kernel, by decide +kernel, by decide +kernel, by decide +kernel, by decide +kernel⟩) rfl rfl  (j_vi_range1 (by rfl) T.n_range (j_va_cons (j_va_e j_ve_int) j_va_nil)) (fun _ _ _ _ _ _ _ => (j_vg_name (i := 0) (show ((["_law_level"] : List Str) ++ (["_law_grain"] : List Str)).Nodup by decide +kernel) rfl (Or.inl rfl))) (fun _ _ _ _ _ _ _ => j_vf_nil) (fun _ _ _ _ _ _ _ => (j_ve_add (j_vp 1) (j_p (j_ve_tup (j_va_cons (j_va_e (j_vv 0)) j_va_nil))))) (by decide))))))
      j_vs_nil))
      (j_vs_cons (j_vs_set (i := 1) sc_law_all.nd rfl (Or.inl rfl) (j_vv 3))
      j_vs_nil))))
      (j_vs_cons (j_vs_ret (j_vv 1))
      j_vs_nil))) ?_
  rfl
theorem sc_law_bounds_good : FnScope ["_law_one", "_law_other", "_law_low", "_law_high", "_law_grain", "_law_below", "_law_above"] ["_law_one", "_law_other", "_law_low", "_law_high"] (defScope s_law_bounds_good) := ⟨rfl, rfl, rfl, by decide +kernel, rfl, by decide +kernel, by decide +kernel⟩
theorem ok_law_bounds_good (T : Tx K mg d) : FnOk P w K mg base CX0 2 d.a_law_bounds_good d.d_law_bounds_good ["_law_one", "_law_other", "_law_low", "_law_high"] (spD K F_law_bounds_good) :=
  by
  refine fn_okJ (N := ["_law_one", "_law_other", "_law_low", "_law_high", "_law_grain", "_law_below", "_law_above"]) (ps := ["_law_one", "_law_other", "_law_low", "_law_high"]) T.F_law_bounds_good sc_law_bounds_good (by decide) (g := g_law_bounds_good) (fun cdv A outer s H E M H0 hr => ?_)
  refine j_conv (j_vs_cons (j_vs_for PassesOwn.never rfl (j_vi_seq (j_q (j_ve_call (ok_law_all T) (hr.mono (by decide)) (by rfl) T.m_law_all T.F_law_all.kp T.b_law_all (E := E0) pass0 (j_va_cons (j_va_e (j_ve_callB call_len rc_len (by rfl) T.n_len (by rfl) (j_va_cons (j_va 0) j_va_nil))) j_va_nil)))) (j_vg_name (i := 4) sc_law_bounds_good.nd rfl (Or.inl rfl))
      (j_vs_cons (j_vs_set (i := 5) sc_law_bounds_good.nd rfl (Or.inl rfl) (j_ve_and (j_ve_call (ok_law_fine T) (hr.mono (by decide)) (by rfl) T.m_law_fine T.F_law_fine.kp T.b_law_fine (E := E0) pass0 (j_va_cons (j_va 4) (j_va_cons (j_va 0) j_va_nil))) (j_ve_one (j_ve_call (ok_law_fine T) (hr.mono (by decide)) (by rfl) T.m_law_fine T.F_law_fine.kp T.b_law_fine (E := E0) pass0 (j_va_cons (j_va 4) (j_va_cons (j_va 1) j_va_nil))))))
      (j_vs_cons (j_vs_set (i := 6) sc_law_bounds_good.nd rfl (Or.inl rfl) (j_ve_and (j_ve_call (ok_law_fine T) (hr.mono (by decide)) (by rfl) T.m_law_fine T.F_law_fine.kp T.b_law_fine (E := E0) pass0 (j_va_cons (j_va 0) (j_va_cons (j_va 4) j_va_nil))) (j_ve_one (j_ve_call (ok_law_fine T) (hr.mono (by decide)) (by rfl) T.m_law_fine T.F_law_fine.kp T.b_law_fine (E := E0) pass0 (j_va_cons (j_va 1) (j_va_cons (j_va 4) j_va_nil))))))
      (j_vs_cons (j_vs_if (j_pt (j_vw_or (j_vtc_ne hr.units (j_vp 5) (j_p (j_ve_call (ok_law_fine T) (hr.mono (by decide)) (by rfl) T.m_law_fine T.F_law_fine.kp T.b_law_fine (E := E0) pass0 (j_va_cons (j_va 4) (j_va_cons (j_va 2) j_va_nil))))) (j_vw_or1 (j_vtc_ne hr.units (j_vp 6) (j_p (j_ve_call (ok_law_fine T) (hr.mono (by decide)) (by rfl) T.m_law_fine T.F_law_fine.kp T.b_law_fine (E := E0) pass0 (j_va_cons (j_va 3) (j_va_cons (j_va 4) j_va_nil))))))))
      (j_vs_cons (j_vs_ret j_ve_bl)
      j_vs_nil)
      j_vs_nil)
      j_vs_nil))))
      (j_vs_cons (j_vs_ret j_ve_bl)
      j_vs_nil)) ?_
  rfl
theorem sc_law : FnScope ["_law_script", "_law_way", "_law_many", "_law_one", "_law_other", "_law_at", "_law_left", "_law_right", "_law_told", "_law_low", "_law_high"] ["_law_script"] (defScope s_law) := ⟨rfl, rfl, rfl, by decide +kernel, rfl, by decide +kernel, by decide +kernel⟩
theorem ok_law (T : Tx K mg d) : FnOk P w K mg base CX0 3 d.a_law d.d_law ["_law_script"] (spD K F_law) :=
  by
  refine fn_okJ (N := ["_law_script", "_law_way", "_law_many", "_law_one", "_law_other", "_law_at", "_law_left", "_law_right", "_law_told", "_law_low", "_law_high"]) (ps := ["_law_script"]) T.F_law sc_law (by decide) (g := g_law) (fun cdv A outer s H E M H0 hr => ?_)
  refine j_conv (j_vs_cons (j_vs_set (i := 1) sc_law.nd rfl (Or.inr rfl) (j_ve_call (ok_law_stream T) (hr.mono (by decide)) (by rfl) T.m_law_stream T.F_law_stream.kp T.b_law_stream (E := E0) pass0 (j_va_cons (j_va_e (j_ve_call (ok_law_cell_at T) (hr.mono (by decide)) (by rfl) T.m_law_cell_at T.F_law_cell_at.kp T.b_law_cell_at (E := E0) pass0 (j_va_cons (j_va 0) (j_va_cons (j_va_e j_ve_int) j_va_nil)))) (j_va_cons (j_va_e j_ve_int) j_va_nil))))
      (j_vs_cons (j_vs_set (i := 2) sc_law.nd rfl (Or.inl rfl) (j_ve_add (j_p j_ve_int) (j_p (j_ve_mod (j_p (j_ve_item (j_vp 1) (j_p j_ve_int) (fun _ _ => rfl))) (j_p j_ve_int)))))
      (j_vs_cons (j_vs_set (i := 3) sc_law.nd rfl (Or.inl rfl) (j_ve_callTy call_tuple_of rc_tuple (by rfl) T.n_tuple (by rfl) (j_va_cons (j_va_e (j_fd (j_vf_comp ["_law_k"] ["_law_script"] [0] (show CompSc ["_law_k"] ["_law_script"] _ (defScope s_law) from ⟨rfl, by decide +kernel, by decide +kernel, by decide +kernel, by decide +kernel, by decide +kernel⟩) rfl rfl  (j_vi_range1 (by rfl) T.n_range (j_va_cons (j_va_e (j_vv 2)) j_va_nil)) (fun _ _ _ _ _ _ _ => (j_vg_name (i := 0) (show ((["_law_k"] : List Str) ++ (["_law_script"] : List Str)).Nodup by decide +kernel) rfl (Or.inl rfl))) (fun _ _ _ _ _ _ _ => j_vf_nil) (fun _ _ _ _ _ _ _ => (j_ve_mod (j_p (j_ve_fdiv (j_p (j_ve_call (ok_law_cell_at T) (hr.mono (by decide)) (by rfl) T.m_law_cell_at T.F_law_cell_at.kp T.b_law_cell_at (E := E0) pass0 (j_va_cons (j_va 1) (j_va_cons (j_va_e (j_ve_add (j_p j_ve_int) (j_vp 0))) j_va_nil)))) (j_p j_ve_int))) (j_p j_ve_int))) (by decide)))) j_va_nil)))
      (j_vs_cons (j_vs_set (i := 4) sc_law.nd rfl (Or.inl rfl) (j_ve_callTy call_tuple_of rc_tuple (by rfl) T.n_tuple (by rfl) (j_va_cons (j_va_e (j_fd (j_vf_comp ["_law_k"] ["_law_script", "_law_way"] [0, 1] (show CompSc ["_law_k"] ["_law_script", "_law_way"] _ (defScope s_law) from ⟨rfl, by decide +kernel, by decide +kernel, by decide +kernel, by decide +kernel, by decide +kernel⟩) rfl rfl  (j_vi_range1 (by rfl) T.n_range (j_va_cons (j_va_e (j_vv 2)) j_va_nil)) (fun _ _ _ _ _ _ _ => (j_vg_name (i := 0) (show ((["_law_k"] : List Str) ++ (["_law_script", "_law_way"] : List Str)).Nodup by decide +kernel) rfl (Or.inl rfl))) (fun _ _ _ _ _ _ _ => j_vf_nil) (fun _ _ _ _ _ _ _ => (j_ve_mod (j_p (j_ve_add (j_p (j_ve_call (ok_law_cell_at T) (hr.mono (by decide)) (by rfl) T.m_law_cell_at T.F_law_cell_at.kp T.b_law_cell_at (E := E0) pass0 (j_va_cons (j_va 1) (j_va_cons (j_va_e (j_ve_add (j_p j_ve_int) (j_vp 0))) j_va_nil)))) (j_p (j_ve_item (j_vp 2) (j_p (j_ve_add (j_p j_ve_int) (j_vp 0))) (fun _ _ => rfl))))) (j_p j_ve_int))) (by decide)))) j_va_nil)))
      (j_vs_cons (j_vs_if (j_vtc_eq hr.units (j_p (j_ve_mod (j_p (j_ve_item (j_vp 1) (j_p j_ve_int) (fun _ _ => rfl))) (j_p j_ve_int))) (j_p j_ve_int))
      (j_vs_cons (j_vs_set (i := 4) sc_law.nd rfl (Or.inl rfl) (j_vv 3))
      j_vs_nil)
      j_vs_nil)
      (j_vs_cons (j_vs_if (j_vtc_eq hr.units (j_p (j_ve_mod (j_p (j_ve_item (j_vp 1) (j_p j_ve_int) (fun _ _ => rfl))) (j_p j_ve_int))) (j_p j_ve_int))
      (j_vs_cons (j_vs_set (i := 5) sc_law.nd rfl (Or.inl rfl) (j_ve_mod (j_p (j_ve_fdiv (j_p (j_ve_item (j_vp 1) (j_p j_ve_int) (fun _ _ => rfl))) (j_p j_ve_int))) (j_vp 2)))
      (j_vs_cons (j_vs_set (i := 4) sc_law.nd rfl (Or.inl rfl) (j_ve_add (j_p (j_ve_add (j_p (j_ve_slice (j_vp 3) j_vo_none (j_vo_some (j_vp 5)))) (j_p (j_ve_tup (j_va_cons (j_va_e (j_ve_mod (j_p (j_ve_add (j_p (j_ve_item (j_vp 3) (j_vp 5) (fun _ _ => rfl))) (j_p j_ve_int))) (j_p j_ve_int))) j_va_nil))))) (j_p (j_ve_slice (j_vp 3) (j_vo_some (j_p (j_ve_add (j_vp 5) (j_p j_ve_int)))) j_vo_none))))
      j_vs_nil))
      j_vs_nil)
      (j_vs_cons (j_vs_for PassesOwn.never rfl (j_vi_seq (j_q (j_fd (j_vf_lst (j_va_cons (j_va_e (j_ve_tup (j_va_cons (j_va_e (j_vv 3)) (j_va_cons (j_va_e (j_vv 4)) j_va_nil)))) (j_va_cons (j_va_e (j_ve_tup (j_va_cons (j_va_e (j_vv 4)) (j_va_cons (j_va_e (j_vv 3)) j_va_nil)))) (j_va_cons (j_va_e (j_ve_tup (j_va_cons (j_va_e (j_vv 3)) (j_va_cons (j_va_e (j_vv 3)) j_va_nil)))) j_va_nil))))))) (j_vg_tup (n := 2) rfl (j_vgs_cons (j_vg_name (i := 6) sc_law.nd rfl (Or.inl rfl)) (j_vgs_cons (j_vg_name (i := 7) sc_law.nd rfl (Or.inl rfl)) j_vgs_nil)))
      (j_vs_cons (j_vs_set (i := 8) sc_law.nd rfl (Or.inl rfl) (j_ve_call (ok_as_fine T) (hr.mono (by decide)) (by rfl) T.m_as_fine T.F_as_fine.kp T.b_as_fine (E := E0) pass0 (j_va_cons (j_va 6) (j_va_cons (j_va 7) j_va_nil))))
      (j_vs_cons (j_vs_if (j_pt (j_vw_or (j_vt_not (j_vt_tru (j_p (j_ve_callB call_isD rc_is (by rfl) T.n_isinstance (by rfl) (j_va_cons (j_va 8) (j_va_cons (j_va_e (j_ve_tyn (n := "bool") (by rfl) T.n_bool (by rfl))) j_va_nil)))))) (j_vw_or1 (j_vtc_ne hr.units (j_vp 8) (j_p (j_ve_call (ok_law_fine T) (hr.mono (by decide)) (by rfl) T.m_law_fine T.F_law_fine.kp T.b_law_fine (E := E0) pass0 (j_va_cons (j_va 6) (j_va_cons (j_va 7) j_va_nil))))))))
      (j_vs_cons (j_vs_ret j_ve_bl)
      j_vs_nil)
      j_vs_nil)
      j_vs_nil)))
      (j_vs_cons (j_vs_set (i := 9) sc_law.nd rfl (Or.inl rfl) (j_ve_call (ok_meet T) (hr.mono (by decide)) (by rfl) T.m_meet T.F_meet.kp T.b_meet (E := E0) pass0 (j_va_cons (j_va 3) (j_va_cons (j_va 4) j_va_nil))))
      (j_vs_cons (j_vs_set (i := 10) sc_law.nd rfl (Or.inl rfl) (j_ve_call (ok_join T) (hr.mono (by decide)) (by rfl) T.m_join T.F_join.kp T.b_join (E := E0) pass0 (j_va_cons (j_va 3) (j_va_cons (j_va 4) j_va_nil))))
      (j_vs_cons (j_vs_if (j_pt (j_vw_or (j_vt_not (j_vt_tru (j_p (j_ve_call (ok_law_levels T) (hr.mono (by decide)) (by rfl) T.m_law_levels T.F_law_levels.kp T.b_law_levels (E := E0) pass0 (j_va_cons (j_va 9) (j_va_cons (j_va 2) j_va_nil)))))) (j_vw_or1 (j_vt_not (j_vt_tru (j_p (j_ve_call (ok_law_levels T) (hr.mono (by decide)) (by rfl) T.m_law_levels T.F_law_levels.kp T.b_law_levels (E := E0) pass0 (j_va_cons (j_va 10) (j_va_cons (j_va 2) j_va_nil)))))))))
      (j_vs_cons (j_vs_ret j_ve_bl)
      j_vs_nil)
      j_vs_nil)
      (j_vs_cons (j_vs_ret (j_ve_call (ok_law_bounds_good T) (hr.mono (by decide)) (by rfl) T.m_law_bounds_good T.F_law_bounds_good.kp T.b_law_bounds_good (E := E0) pass0 (j_va_cons (j_va 3) (j_va_cons (j_va 4) (j_va_cons (j_va 9) (j_va_cons (j_va 10) j_va_nil))))))
      j_vs_nil))))))))))) ?_
  rfl
end
theorem all_mk {l : PySem.W.OpenLaw} {w : World} {K : PySem.W.Frag} {h : Heap} {mg : Str → Option Value} {fa : Addr} (X : K.In h) (G : h.Ns mainGlobals mg) (hfa : mg "law" = some (.ref fa))
    {a_as_fine : Addr} {od_as_fine an_as_fine : Option Addr} {sl_as_fine : Array (Option Value)} {oc_as_fine kV_as_fine dc_as_fine pm_as_fine cd_as_fine ct_as_fine : Value}
    {a_meet : Addr} {od_meet an_meet : Option Addr} {sl_meet : Array (Option Value)} {oc_meet kV_meet dc_meet pm_meet cd_meet ct_meet : Value}
    {a_join : Addr} {od_join an_join : Option Addr} {sl_join : Array (Option Value)} {oc_join kV_join dc_join pm_join cd_join ct_join : Value}
    {a_law_cell_at : Addr} {od_law_cell_at an_law_cell_at : Option Addr} {sl_law_cell_at : Array (Option Value)} {oc_law_cell_at kV_law_cell_at dc_law_cell_at pm_law_cell_at cd_law_cell_at ct_law_cell_at : Value}
    {a_law_stream : Addr} {od_law_stream an_law_stream : Option Addr} {sl_law_stream : Array (Option Value)} {oc_law_stream kV_law_stream dc_law_stream pm_law_stream cd_law_stream ct_law_stream : Value}
    {a_law_fine : Addr} {od_law_fine an_law_fine : Option Addr} {sl_law_fine : Array (Option Value)} {oc_law_fine kV_law_fine dc_law_fine pm_law_fine cd_law_fine ct_law_fine : Value}
    {a_law_levels : Addr} {od_law_levels an_law_levels : Option Addr} {sl_law_levels : Array (Option Value)} {oc_law_levels kV_law_levels dc_law_levels pm_law_levels cd_law_levels ct_law_levels : Value}
    {a_law_all : Addr} {od_law_all an_law_all : Option Addr} {sl_law_all : Array (Option Value)} {oc_law_all kV_law_all dc_law_all pm_law_all cd_law_all ct_law_all : Value}
    {a_law_bounds_good : Addr} {od_law_bounds_good an_law_bounds_good : Option Addr} {sl_law_bounds_good : Array (Option Value)} {oc_law_bounds_good kV_law_bounds_good dc_law_bounds_good pm_law_bounds_good cd_law_bounds_good ct_law_bounds_good : Value}
    {a_law : Addr} {od_law an_law : Option Addr} {sl_law : Array (Option Value)} {oc_law kV_law dc_law pm_law cd_law ct_law : Value}
    (A_as_fine : PySem.W.nsIn K mainGlobals "as_fine" = some (some (.ref a_as_fine)))
    (L_as_fine : K.lookup a_as_fine = some ⟨oc_as_fine, od_as_fine, .func (PySem.W.fnOf "as_fine" "as_fine" (defArgs s_as_fine) (defBody s_as_fine) (defScope s_as_fine) .none kV_as_fine dc_as_fine pm_as_fine an_as_fine cd_as_fine ct_as_fine), sl_as_fine⟩)
    (C_as_fine : PySem.W.codeIn K cd_as_fine "as_fine" = true) (k_as_fine : PySem.W.keepIn K (.ref a_as_fine) = true)
    (A_meet : PySem.W.nsIn K mainGlobals "meet" = some (some (.ref a_meet)))
    (L_meet : K.lookup a_meet = some ⟨oc_meet, od_meet, .func (PySem.W.fnOf "meet" "meet" (defArgs s_meet) (defBody s_meet) (defScope s_meet) .none kV_meet dc_meet pm_meet an_meet cd_meet ct_meet), sl_meet⟩)
    (C_meet : PySem.W.codeIn K cd_meet "meet" = true) (k_meet : PySem.W.keepIn K (.ref a_meet) = true)
    (A_join : PySem.W.nsIn K mainGlobals "join" = some (some (.ref a_join)))
    (L_join : K.lookup a_join = some ⟨oc_join, od_join, .func (PySem.W.fnOf "join" "join" (defArgs s_join) (defBody s_join) (defScope s_join) .none kV_join dc_join pm_join an_join cd_join ct_join), sl_join⟩)
    (C_join : PySem.W.codeIn K cd_join "join" = true) (k_join : PySem.W.keepIn K (.ref a_join) = true)
    (A_law_cell_at : PySem.W.nsIn K mainGlobals "_law_cell_at" = some (some (.ref a_law_cell_at)))
    (L_law_cell_at : K.lookup a_law_cell_at = some ⟨oc_law_cell_at, od_law_cell_at, .func (PySem.W.fnOf "_law_cell_at" "_law_cell_at" (defArgs s_law_cell_at) (defBody s_law_cell_at) (defScope s_law_cell_at) .none kV_law_cell_at dc_law_cell_at pm_law_cell_at an_law_cell_at cd_law_cell_at ct_law_cell_at), sl_law_cell_at⟩)
    (C_law_cell_at : PySem.W.codeIn K cd_law_cell_at "_law_cell_at" = true) (k_law_cell_at : PySem.W.keepIn K (.ref a_law_cell_at) = true)
    (A_law_stream : PySem.W.nsIn K mainGlobals "_law_stream" = some (some (.ref a_law_stream)))
    (L_law_stream : K.lookup a_law_stream = some ⟨oc_law_stream, od_law_stream, .func (PySem.W.fnOf "_law_stream" "_law_stream" (defArgs s_law_stream) (defBody s_law_stream) (defScope s_law_stream) .none kV_law_stream dc_law_stream pm_law_stream an_law_stream cd_law_stream ct_law_stream), sl_law_stream⟩)
    (C_law_stream : PySem.W.codeIn K cd_law_stream "_law_stream" = true) (k_law_stream : PySem.W.keepIn K (.ref a_law_stream) = true)
    (A_law_fine : PySem.W.nsIn K mainGlobals "_law_fine" = some (some (.ref a_law_fine)))
    (L_law_fine : K.lookup a_law_fine = some ⟨oc_law_fine, od_law_fine, .func (PySem.W.fnOf "_law_fine" "_law_fine" (defArgs s_law_fine) (defBody s_law_fine) (defScope s_law_fine) .none kV_law_fine dc_law_fine pm_law_fine an_law_fine cd_law_fine ct_law_fine), sl_law_fine⟩)
    (C_law_fine : PySem.W.codeIn K cd_law_fine "_law_fine" = true) (k_law_fine : PySem.W.keepIn K (.ref a_law_fine) = true)
    (A_law_levels : PySem.W.nsIn K mainGlobals "_law_levels" = some (some (.ref a_law_levels)))
    (L_law_levels : K.lookup a_law_levels = some ⟨oc_law_levels, od_law_levels, .func (PySem.W.fnOf "_law_levels" "_law_levels" (defArgs s_law_levels) (defBody s_law_levels) (defScope s_law_levels) .none kV_law_levels dc_law_levels pm_law_levels an_law_levels cd_law_levels ct_law_levels), sl_law_levels⟩)
    (C_law_levels : PySem.W.codeIn K cd_law_levels "_law_levels" = true) (k_law_levels : PySem.W.keepIn K (.ref a_law_levels) = true)
    (A_law_all : PySem.W.nsIn K mainGlobals "_law_all" = some (some (.ref a_law_all)))
    (L_law_all : K.lookup a_law_all = some ⟨oc_law_all, od_law_all, .func (PySem.W.fnOf "_law_all" "_law_all" (defArgs s_law_all) (defBody s_law_all) (defScope s_law_all) .none kV_law_all dc_law_all pm_law_all an_law_all cd_law_all ct_law_all), sl_law_all⟩)
    (C_law_all : PySem.W.codeIn K cd_law_all "_law_all" = true) (k_law_all : PySem.W.keepIn K (.ref a_law_all) = true)
    (A_law_bounds_good : PySem.W.nsIn K mainGlobals "_law_bounds_good" = some (some (.ref a_law_bounds_good)))
    (L_law_bounds_good : K.lookup a_law_bounds_good = some ⟨oc_law_bounds_good, od_law_bounds_good, .func (PySem.W.fnOf "_law_bounds_good" "_law_bounds_good" (defArgs s_law_bounds_good) (defBody s_law_bounds_good) (defScope s_law_bounds_good) .none kV_law_bounds_good dc_law_bounds_good pm_law_bounds_good an_law_bounds_good cd_law_bounds_good ct_law_bounds_good), sl_law_bounds_good⟩)
    (C_law_bounds_good : PySem.W.codeIn K cd_law_bounds_good "_law_bounds_good" = true) (k_law_bounds_good : PySem.W.keepIn K (.ref a_law_bounds_good) = true)
    (A_law : PySem.W.nsIn K mainGlobals "law" = some (some (.ref a_law)))
    (L_law : K.lookup a_law = some ⟨oc_law, od_law, .func (PySem.W.fnOf "law" "law" (defArgs s_law) (defBody s_law) (defScope s_law) .none kV_law dc_law pm_law an_law cd_law ct_law), sl_law⟩)
    (C_law : PySem.W.codeIn K cd_law "law" = true) (k_law : PySem.W.keepIn K (.ref a_law) = true)
    (N_all : PySem.W.nsIn K mainGlobals "all" = some none)
    (N_bool : PySem.W.nsIn K mainGlobals "bool" = some none)
    (N_int : PySem.W.nsIn K mainGlobals "int" = some none)
    (N_isinstance : PySem.W.nsIn K mainGlobals "isinstance" = some none)
    (N_len : PySem.W.nsIn K mainGlobals "len" = some none)
    (N_max : PySem.W.nsIn K mainGlobals "max" = some none)
    (N_min : PySem.W.nsIn K mainGlobals "min" = some none)
    (N_range : PySem.W.nsIn K mainGlobals "range" = some none)
    (N_tuple : PySem.W.nsIn K mainGlobals "tuple" = some none)
    (N_zip : PySem.W.nsIn K mainGlobals "zip" = some none) :
    ∃ fd : FuncData, (∀ (s : Shared) (v : Value), BindsTo s fd ⟨[v], []⟩ [("_law_script", v)]) ∧ ∀ base : Heap, K.In base → base.Ns mainGlobals mg → FnOk l.prog w K mg base CX0 3 fa fd ["_law_script"] (spLaw K) := by
  have e := hfa.symm.trans (PySem.W.mg_of X G A_law)
  cases e
  have F_as_fine := fun_mk (st := s_as_fine) L_as_fine C_as_fine k_as_fine
  have F_meet := fun_mk (st := s_meet) L_meet C_meet k_meet
  have F_join := fun_mk (st := s_join) L_join C_join k_join
  have F_law_cell_at := fun_mk (st := s_law_cell_at) L_law_cell_at C_law_cell_at k_law_cell_at
  have F_law_stream := fun_mk (st := s_law_stream) L_law_stream C_law_stream k_law_stream
  have F_law_fine := fun_mk (st := s_law_fine) L_law_fine C_law_fine k_law_fine
  have F_law_levels := fun_mk (st := s_law_levels) L_law_levels C_law_levels k_law_levels
  have F_law_all := fun_mk (st := s_law_all) L_law_all C_law_all k_law_all
  have F_law_bounds_good := fun_mk (st := s_law_bounds_good) L_law_bounds_good C_law_bounds_good k_law_bounds_good
  have F_law := fun_mk (st := s_law) L_law C_law k_law
  have T : Tx K mg ⟨a_as_fine, _, a_meet, _, a_join, _, a_law_cell_at, _, a_law_stream, _, a_law_fine, _, a_law_levels, _, a_law_all, _, a_law_bounds_good, _, fa, _⟩ := {
    m_as_fine := PySem.W.mg_of X G A_as_fine
    F_as_fine := F_as_fine
    b_as_fine := F_as_fine.binds fun _ _ _ _ _ _ us hl => match us, hl with | [_, _], _ => rfl
    m_meet := PySem.W.mg_of X G A_meet
    F_meet := F_meet
    b_meet := F_meet.binds fun _ _ _ _ _ _ us hl => match us, hl with | [_, _], _ => rfl
    m_join := PySem.W.mg_of X G A_join
    F_join := F_join
    b_join := F_join.binds fun _ _ _ _ _ _ us hl => match us, hl with | [_, _], _ => rfl
    m_law_cell_at := PySem.W.mg_of X G A_law_cell_at
    F_law_cell_at := F_law_cell_at
    b_law_cell_at := F_law_cell_at.binds fun _ _ _ _ _ _ us hl => match us, hl with | [_, _], _ => rfl
    m_law_stream := PySem.W.mg_of X G A_law_stream
    F_law_stream := F_law_stream
    b_law_stream := F_law_stream.binds fun _ _ _ _ _ _ us hl => match us, hl with | [_, _], _ => rfl
    m_law_fine := PySem.W.mg_of X G A_law_fine
    F_law_fine := F_law_fine
    b_law_fine := F_law_fine.binds fun _ _ _ _ _ _ us hl => match us, hl with | [_, _], _ => rfl
    m_law_levels := PySem.W.mg_of X G A_law_levels
    F_law_levels := F_law_levels
    b_law_levels := F_law_levels.binds fun _ _ _ _ _ _ us hl => match us, hl with | [_, _], _ => rfl
    m_law_all := PySem.W.mg_of X G A_law_all
    F_law_all := F_law_all
    b_law_all := F_law_all.binds fun _ _ _ _ _ _ us hl => match us, hl with | [_], _ => rfl
    m_law_bounds_good := PySem.W.mg_of X G A_law_bounds_good
    F_law_bounds_good := F_law_bounds_good
    b_law_bounds_good := F_law_bounds_good.binds fun _ _ _ _ _ _ us hl => match us, hl with | [_, _, _, _], _ => rfl
    m_law := PySem.W.mg_of X G A_law
    F_law := F_law
    b_law := F_law.binds fun _ _ _ _ _ _ us hl => match us, hl with | [_], _ => rfl
    n_all := PySem.W.mg_none_of X G N_all
    n_bool := PySem.W.mg_none_of X G N_bool
    n_int := PySem.W.mg_none_of X G N_int
    n_isinstance := PySem.W.mg_none_of X G N_isinstance
    n_len := PySem.W.mg_none_of X G N_len
    n_max := PySem.W.mg_none_of X G N_max
    n_min := PySem.W.mg_none_of X G N_min
    n_range := PySem.W.mg_none_of X G N_range
    n_tuple := PySem.W.mg_none_of X G N_tuple
    n_zip := PySem.W.mg_none_of X G N_zip
  }
  exact ⟨_, fun s v => .of_eq rfl, fun base _ _ => law_ok (ok_law T) law_true⟩
theorem walk {l : PySem.W.OpenLaw} {q : Program} {loose : List Str} {XP : (Str → Option Value) → Heap → Prop} {YP : World → Heap → Prop} {d : DefRec} {K : Params → PySem.W.Frag} (hn : l.most = some 63) (hdf : d.params.defaults = [])
    (hY : ∀ (w : World) (h : Heap), YP w h → (K w.params).In h)
    (F : ∀ (w : World) (mg : Str → Option Value) (fa : Addr) (h : Heap), (K w.params).In h → h.Ns mainGlobals mg → mg d.name = some (.ref fa) →
      ∃ fd : FuncData, (∀ (s : Shared) (u : Value), BindsTo s fd ⟨[u], []⟩ [("_law_script", u)]) ∧ ∀ base : Heap, (K w.params).In base → base.Ns mainGlobals mg → FnOk l.prog w (K w.params) mg base CX0 3 fa fd ["_law_script"] (spLaw (K w.params))) :
    PySem.W.WalkO q loose XP YP l.row.toRowW d [] (fun f vs => PySem.call f vs) :=
  L2.walk_of (n := 63) (k := 3) (x := "_law_script") (CX := fun _ => CX0) (sp := fun w => spLaw (K w.params)) hn (by decide) hdf ⟨rfl, by decide, by decide⟩ hY F (fun _ _ a ns hl _ hS => ⟨a, ns, rfl, hS, hl, fun _ => rfl⟩) fun _ _ _ _ _ z => z
end K21
open PySem PySem.W PyProof.Rows
set_option maxRecDepth 100000 in
set_option maxHeartbeats 0 in
theorem PySem.Challenge.cw_cubebook_k21_meets_and_joins_holds : PySem.Challenge.rw_cubebook_k21_meets_and_joins.Holds := by
  w_on; o_law; k_head; (case hw => w_witness2)
  k_fill
  refine K21.walk (l := PySem.Challenge.rw_cubebook_k21_meets_and_joins) rfl rfl (fun w h Y => PySem.W.kIn_of Y) ?F
  case F =>
    intro w mg fa h KX G hmg
    refine' K21.all_mk KX G hmg ?A_as_fine ?L_as_fine ?C_as_fine ?k_as_fine ?A_meet ?L_meet ?C_meet ?k_meet ?A_join ?L_join ?C_join ?k_join ?A_law_cell_at ?L_law_cell_at ?C_law_cell_at ?k_law_cell_at ?A_law_stream ?L_law_stream ?C_law_stream ?k_law_stream ?A_law_fine ?L_law_fine ?C_law_fine ?k_law_fine ?A_law_levels ?L_law_levels ?C_law_levels ?k_law_levels ?A_law_all ?L_law_all ?C_law_all ?k_law_all ?A_law_bounds_good ?L_law_bounds_good ?C_law_bounds_good ?k_law_bounds_good ?A_law ?L_law ?C_law ?k_law ?N_all ?N_bool ?N_int ?N_isinstance ?N_len ?N_max ?N_min ?N_range ?N_tuple ?N_zip
    (case A_as_fine => k_is)
    (case L_as_fine => k_is)
    (case C_as_fine => k_is)
    (case k_as_fine => k_is)
    (case A_meet => k_is)
    (case L_meet => k_is)
    (case C_meet => k_is)
    (case k_meet => k_is)
    (case A_join => k_is)
    (case L_join => k_is)
    (case C_join => k_is)
    (case k_join => k_is)
    (case A_law_cell_at => k_is)
    (case L_law_cell_at => k_is)
    (case C_law_cell_at => k_is)
    (case k_law_cell_at => k_is)
    (case A_law_stream => k_is)
    (case L_law_stream => k_is)
    (case C_law_stream => k_is)
    (case k_law_stream => k_is)
    (case A_law_fine => k_is)
    (case L_law_fine => k_is)
    (case C_law_fine => k_is)
    (case k_law_fine => k_is)
    (case A_law_levels => k_is)
    (case L_law_levels => k_is)
    (case C_law_levels => k_is)
    (case k_law_levels => k_is)
    (case A_law_all => k_is)
    (case L_law_all => k_is)
    (case C_law_all => k_is)
    (case k_law_all => k_is)
    (case A_law_bounds_good => k_is)
    (case L_law_bounds_good => k_is)
    (case C_law_bounds_good => k_is)
    (case k_law_bounds_good => k_is)
    (case A_law => k_is)
    (case L_law => k_is)
    (case C_law => k_is)
    (case k_law => k_is)
    (case N_all => k_is)
    (case N_bool => k_is)
    (case N_int => k_is)
    (case N_isinstance => k_is)
    (case N_len => k_is)
    (case N_max => k_is)
    (case N_min => k_is)
    (case N_range => k_is)
    (case N_tuple => k_is)
    (case N_zip => k_is)
#print axioms PySem.Challenge.cw_cubebook_k21_meets_and_joins_holds
