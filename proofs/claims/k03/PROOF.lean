import PyProof.Rows.All
import Wide.All
import OpenK.AllK
import Wide.FinOn
import Lean
import PyProof.EqAt
import PyProof.EqKinds
import PyProof.TupleCall
import PyProof.TupleKey
import PyProof.DictRoadsH
import Wide.Seal
import PyProof.NeKinds
import PyProof.ZipIter
import PyProof.Draws
import PyProof.Rows.TupTab
import KE.KDictLaws
import PyProof.AutoListH
import PySem.Challenge.RW_cubebook_k03_keys_in_order
set_option Elab.async false
set_option linter.all false
set_option maxRecDepth 100000
namespace L2
open PySem PySem.Spec PyProof.Rows
abbrev Key := Sum Int Str
def keyIs : Key → Value → Bool
  | .inl k, v => Value.isInt k v
  | .inr x, v => Value.isStrOf x v
def keyH (w : World) : Key → Int
  | .inl k => hashInt k
  | .inr x => hashStr w x
theorem keyIs_shape : ∀ {k : Key} {v : Value}, keyIs k v = true → (∃ i t, k = Sum.inl i ∧ v = Value.int i t) ∨ (∃ x t, k = Sum.inr x ∧ v = Value.str x t)
  | .inl i, v, h => by
    obtain ⟨t, e⟩ := Value.isInt_shape (k := i) (v := v) h
    exact .inl ⟨i, t, rfl, e⟩
  | .inr x, v, h => by
    obtain ⟨t, e⟩ := Value.isStrOf_shape (x := x) (v := v) h
    exact .inr ⟨x, t, rfl, e⟩
theorem key_ll (a b : Int) : decide ((Sum.inl a : Key) = Sum.inl b) = (a == b) := by
  by_cases e : a = b
  · subst e; simp
  · have h : ¬ (Sum.inl a : Key) = Sum.inl b := fun q => e (Sum.inl.inj q)
    rw [decide_eq_false h]
    exact (beq_eq_false_iff_ne.mpr e).symm
theorem key_rr (a b : Str) : decide ((Sum.inr a : Key) = Sum.inr b) = decide (a = b) := by
  by_cases e : a = b
  · subst e; simp
  · have h : ¬ (Sum.inr a : Key) = Sum.inr b := fun q => e (Sum.inr.inj q)
    rw [decide_eq_false h, decide_eq_false e]
theorem key_lr (a : Int) (b : Str) : decide ((Sum.inl a : Key) = Sum.inr b) = false := decide_eq_false (fun q => nomatch q)
theorem key_rl (a : Str) (b : Int) : decide ((Sum.inr a : Key) = Sum.inl b) = false := decide_eq_false (fun q => nomatch q)
def mixKind (prog : Program) (w : World) : PySem.KeyKind prog w Key where
  is := keyIs
  hash := keyH w
  inj := fun v a b ha hb => by
    rcases keyIs_shape ha with ⟨i, t, rfl, rfl⟩ | ⟨x, t, rfl, rfl⟩
    · rcases keyIs_shape hb with ⟨j, u, rfl, e⟩ | ⟨y, u, rfl, e⟩
      · injection e with e1 _; rw [e1]
      · exact nomatch e
    · rcases keyIs_shape hb with ⟨j, u, rfl, e⟩ | ⟨y, u, rfl, e⟩
      · exact nomatch e
      · injection e with e1 _; rw [e1]
  byValue := fun k v h => by
    rcases keyIs_shape h with ⟨i, t, rfl, rfl⟩ | ⟨x, t, rfl, rfl⟩ <;> rfl
  pyHash := fun hv h => by
    rcases keyIs_shape hv with ⟨i, t, rfl, rfl⟩ | ⟨x, t, rfl, rfl⟩
    · exact wpAny_pyHash_int h
    · exact wpAny_pyHash_str h
  eqBool := fun hu hv h => by
    rcases keyIs_shape hu with ⟨i, t, rfl, rfl⟩ | ⟨x, t, rfl, rfl⟩
    · rcases keyIs_shape hv with ⟨j, u, rfl, rfl⟩ | ⟨y, u, rfl, rfl⟩
      · rw [key_ll] at h; exact wpAny_eqBool_int h
      · rw [key_lr] at h; exact SeqAt.EqAt.int_str i t y u _ _ _ _ h
    · rcases keyIs_shape hv with ⟨j, u, rfl, rfl⟩ | ⟨y, u, rfl, rfl⟩
      · rw [key_rl] at h; exact SeqAt.EqAt.str_int x t j u _ _ _ _ h
      · rw [key_rr] at h; exact wpAny_eqBool_str h
  «strs» := fun k x t v h => by
    rcases keyIs_shape h with ⟨i, u, rfl, e⟩ | ⟨y, u, rfl, e⟩
    · exact nomatch e
    · injection e with e1 _
      subst e1
      cases v <;> rfl
end L2
namespace L2
open PySem PySem.Spec PyProof.Rows
inductive V where
  | non | bl (b : Bool) | int (i : Int) | str (x : Str) | byt (b : Array UInt8) | flt (b : UInt64) | ref (a : Addr) | ty (n : String)
  deriving DecidableEq
def RelV : V → Value → Prop
  | .non, u => u = Value.none
  | .bl b, u => u = Value.bool b
  | .int i, u => ∃ t, u = Value.int i t
  | .str x, u => ∃ t, u = Value.str x t
  | .byt b, u => ∃ t, u = Value.bytes b t
  | .flt b, u => ∃ t, u = Value.float b t
  | .ref a, u => u = Value.ref a
  | .ty n, u => u = Value.type n
abbrev Vals : List V → List Value → Prop := Paired RelV
theorem Vals.length {xs : List V} {us : List Value} (r : Vals xs us) : xs.length = us.length := Paired.length r
theorem Vals.get : ∀ {xs : List V} {us : List Value} {i : Nat} {x : V}, Vals xs us → xs[i]? = some x → ∃ u, us[i]? = some u ∧ RelV x u
  | _, _, _, _, .nil, e => by simp at e
  | _, _, 0, _, .cons r _, e => by simp at e; subst e; exact ⟨_, rfl, r⟩
  | _, _, i + 1, x, .cons _ t, e => by
    obtain ⟨u, h1, h2⟩ := Vals.get (i := i) (x := x) t (by simpa using e)
    exact ⟨u, by simpa using h1, h2⟩
theorem Vals.set {x : V} {u : Value} (r : RelV x u) : ∀ {xs : List V} {us : List Value} (i : Nat), Vals xs us → Vals (xs.set i x) (us.set i u)
  | _, _, _, .nil => .nil
  | _, _, 0, .cons _ t => .cons r t
  | _, _, i + 1, .cons q t => .cons q (Vals.set r i t)
theorem Vals.append : ∀ {xs ys : List V} {us ws : List Value}, Vals xs us → Vals ys ws → Vals (xs ++ ys) (us ++ ws)
  | _, _, _, _, .nil, s => s
  | _, _, _, _, .cons r t, s => .cons r (Vals.append t s)
theorem Vals.take : ∀ {xs : List V} {us : List Value} (n : Nat), Vals xs us → Vals (xs.take n) (us.take n)
  | _, _, 0, _ => .nil
  | _, _, _ + 1, .nil => .nil
  | _, _, n + 1, .cons r t => .cons r (Vals.take n t)
theorem Vals.drop : ∀ {xs : List V} {us : List Value} (n : Nat), Vals xs us → Vals (xs.drop n) (us.drop n)
  | _, _, 0, r => r
  | _, _, _ + 1, .nil => .nil
  | _, _, n + 1, .cons _ t => Vals.drop n t
def RelO : Option V → Option Value → Prop
  | some v, some u => RelV v u
  | none, none => True
  | _, _ => False
def KV {κ : Type} : List (κ × V) → List (κ × Value) → Prop := Paired fun (p : κ × V) (q : κ × Value) => p.1 = q.1 ∧ RelV p.2 q.2
def kV : Key → V
  | .inl i => .int i
  | .inr x => .str x
inductive At where
  | non | int (i : Int) | str (x : Str)
  deriving DecidableEq
def atH (w : World) : At → Int
  | .non => reduceHash 4238894112
  | .int k => hashInt k
  | .str x => hashStr w x
inductive KT where
  | at (a : At) | tup (l : List At)
  deriving DecidableEq
def KT.hash (w : World) : KT → Int
  | .at a => atH w a
  | .tup l => reduceHash (Builtin.Tuple.tupleHashOf (l.map (atH w)))
def atV : At → V
  | .non => .non
  | .int i => .int i
  | .str x => .str x
def ktV : KT → V → Prop
  | .at a, v => v = atV a
  | .tup _, v => ∃ p, v = .ref p
def EntOk (w : World) : List KT → List V → List DictEntry → Prop
  | [], vs, es => vs = [] ∧ es = []
  | k :: ks, vs, es => ∃ kv v r e t, vs = kv :: v :: r ∧ es = e :: t ∧ RelV kv e.key ∧ RelV v e.val ∧ e.hash = k.hash w ∧ ktV k kv ∧ EntOk w ks r t
inductive HO where
  | lst (xs : List V)
  | tup (xs : List V)
  | dK (kvs : List (Key × V)) | dT (kvs : List (List Key × V))
  | dct (ks : List KT) (vs : List V)
  | set (S : Int → Bool) (n : Nat)
  | ins (C dx : Addr) (fs : List (Str × V))
  | own (x : Addr)
  | xd (fs : List (Str × V))
  | met (f x : Addr)
  | rng (lo hi : Int)
  | frz (o : Obj) (u : HO)
  | tbl (ps : Array Value)
  | ext (φ : Heap → Prop)
abbrev Hp := Addr → Option HO
def upd (H : Hp) (a : Addr) (o : HO) : Hp := fun b => if b = a then some o else H b
theorem upd_same {H : Hp} {a : Addr} {o : HO} : upd H a o a = some o := by unfold upd; rw [if_pos rfl]
theorem upd_ne {H : Hp} {a b : Addr} {o : HO} (h : b ≠ a) : upd H a o b = H b := by unfold upd; rw [if_neg h]
theorem ne_of_none {H : Hp} {a b : Addr} {o : HO} (h : H a = some o) (h' : H b = none) : a ≠ b := by
  intro e; subst e; rw [h] at h'; cases h'
section
variable (P : Program) (w : World)
def ObjOk (H : Hp) (h : Heap) (a : Addr) : HO → Prop
  | .lst xs => xs.length ≤ sizeLine ∧ ∃ (its : List Value) (n : Nat), Vals xs its ∧ h.get? a = some { cls := .type "list", data := .seq its.toArray n }
  | .tup xs => xs.length ≤ sizeLine ∧ ∃ its : List Value, Vals xs its ∧ IsTup h a its.toArray
  | .dK kvs => kvs.length ≤ sizeLine ∧ (a == sysModules) = false ∧ ∃ vs, KV kvs vs ∧ h.DictOf (mixKind P w) a vs
  | .dT kvs => kvs.length ≤ sizeLine ∧ (a == sysModules) = false ∧ ∃ xs : List (List Key × Addr × Value),
      Paired (fun (p : List Key × V) (q : List Key × Addr × Value) => p.1 = q.1 ∧ H q.2.1 = some (.tup (p.1.map kV)) ∧ RelV p.2 q.2.2) kvs xs ∧
      ∃ o es ep, h.get? a = some o ∧ o.ExactDict ∧ o.data = .dict es ep ∧ es.toList = xs.map (entryOfKey (tupleKind (mixKind P w))) ∧ (xs.map (·.1)).Nodup
  | .dct ks vs => ks.length ≤ sizeLine ∧ (a == sysModules) = false ∧ ks.Nodup ∧ ∃ o es ep, h.get? a = some o ∧ o.ExactDict ∧ o.data = .dict es ep ∧ EntOk w ks vs es.toList
  | .set S n => h.SetOf (intKind P w) a S n
  | .ins C dx fs => H dx = some (.own a) ∧ fs.length ≤ 1000 ∧ dx ≠ a ∧ h.get? a = some (PySem.W.instObj C dx) ∧
      ∃ mA, h.Ns1 dx mA ∧ (∀ f, RelO (fs.lookup f) (mA f)) ∧ PySem.Within mA (fs.map (·.1))
  | .own _ => ∃ o, h.get? a = some o
  | .xd fs => ∃ mA, h.Ns1 a mA ∧ ∀ f, RelO (fs.lookup f) (mA f)
  | .rng lo hi => ∃ t u v, h.get? a = some { cls := .type "range", data := .fields #[.int lo t, .int hi u, .int 1 v] }
  | .frz o u => h.get? a = some o ∧ ObjOk H h a u
  | .tbl ps => h.get? a = some { cls := .none, data := .fields ps }
  | .met f x => h.get? a = some (PySem.W.methodObj (.ref f) (.ref x))
  | .ext φ => φ h ∧ (∃ o, h.get? a = some o) ∧ ∀ h1 h2 : Heap, φ h1 → (∀ o, h1.get? a = some o → h2.get? a = some o) → φ h2
def HOk (H : Hp) (h : Heap) : Prop := ∀ a o, H a = some o → ObjOk P w H h a o
end
section
variable {P : Program} {w : World} {H H' : Hp} {h h' : Heap} {a : Addr} {o : HO}
theorem ObjOk.lt (x : ObjOk P w H h a o) : a < h.objs.size := by
  cases o with
  | lst xs => obtain ⟨_, _, _, _, e⟩ := x; exact Heap.lt_size e
  | tup xs => obtain ⟨_, _, _, p⟩ := x; exact p.lt
  | dK kvs => obtain ⟨_, _, _, _, o, _, _, e, _⟩ := x; exact Heap.lt_size e
  | dT kvs => obtain ⟨_, _, _, _, o, _, _, e, _⟩ := x; exact Heap.lt_size e
  | dct ks vs => obtain ⟨_, _, _, o, _, _, e, _⟩ := x; exact Heap.lt_size e
  | set S n => obtain ⟨o, _, _, _, e, _⟩ := x; exact Heap.lt_size e
  | ins C dx fs => obtain ⟨_, _, _, e, _⟩ := x; exact Heap.lt_size e
  | own y => obtain ⟨_, e⟩ := x; exact Heap.lt_size e
  | xd fs => obtain ⟨_, ⟨_, _, _, e, _⟩, _⟩ := x; exact Heap.lt_size e
  | rng lo hi => obtain ⟨_, _, _, e⟩ := x; exact Heap.lt_size e
  | frz ob u => obtain ⟨e, _⟩ := x; exact Heap.lt_size e
  | tbl ps => exact Heap.lt_size (show h.get? a = some _ from x)
  | met f y => exact Heap.lt_size (show h.get? a = some _ from x)
  | ext φ => obtain ⟨_, ⟨_, e⟩, _⟩ := x; exact Heap.lt_size e
theorem Paired.mapP {α β : Type} {F G : α → β → Prop} : ∀ {l₁ : List α} {l₂ : List β}, Paired F l₁ l₂ → (∀ a b, F a b → G a b) → Paired G l₁ l₂
  | _, _, .nil, _ => .nil
  | _, _, .cons r t, f => .cons (f _ _ r) (Paired.mapP t f)
theorem ObjOk.stay (x : ObjOk P w H h a o) (k : ∀ b u, (b = a ∨ H b = some (.own a)) → h.get? b = some u → h'.get? b = some u)
    (ho : ∀ b, H b = some (.own a) → H' b = some (.own a)) (ht : ∀ b xs, H b = some (.tup xs) → H' b = some (.tup xs)) : ObjOk P w H' h' a o := by
  induction o with
  | lst xs => obtain ⟨z, its, n, r, e⟩ := x; exact ⟨z, its, n, r, k _ _ (.inl rfl) e⟩
  | tup xs => obtain ⟨z, its, r, ob, e, c⟩ := x; exact ⟨z, its, r, ob, k _ _ (.inl rfl) e, c⟩
  | dK kvs => obtain ⟨z, y, vs, r, ob, es, ep, e, c⟩ := x; exact ⟨z, y, vs, r, ob, es, ep, k _ _ (.inl rfl) e, c⟩
  | dT kvs =>
    obtain ⟨z, y, xs, r, ob, es, ep, e, c⟩ := x
    exact ⟨z, y, xs, Paired.mapP r fun p q z => ⟨z.1, ht _ _ z.2.1, z.2.2⟩, ob, es, ep, k _ _ (.inl rfl) e, c⟩
  | dct ks vs => obtain ⟨z, y, n, ob, es, ep, e, c⟩ := x; exact ⟨z, y, n, ob, es, ep, k _ _ (.inl rfl) e, c⟩
  | set S n => obtain ⟨ob, es, ep, t, e, c⟩ := x; exact ⟨ob, es, ep, t, k _ _ (.inl rfl) e, c⟩
  | ins C dx fs =>
    obtain ⟨d, z, ne, e, mA, ⟨od, es, ep, e2, c⟩, r⟩ := x
    exact ⟨ho _ d, z, ne, k _ _ (.inl rfl) e, mA, ⟨od, es, ep, k _ _ (.inr d) e2, c⟩, r⟩
  | own y => obtain ⟨ob, e⟩ := x; exact ⟨ob, k _ _ (.inl rfl) e⟩
  | xd fs => obtain ⟨mA, ⟨od, es, ep, e, c⟩, r⟩ := x; exact ⟨mA, ⟨od, es, ep, k _ _ (.inl rfl) e, c⟩, r⟩
  | rng lo hi => obtain ⟨t, u, v, e⟩ := x; exact ⟨t, u, v, k _ _ (.inl rfl) e⟩
  | frz ob u ih => obtain ⟨e, q⟩ := x; exact ⟨k _ _ (.inl rfl) e, ih q⟩
  | tbl ps =>
    have e : h.get? a = some { cls := .none, data := .fields ps } := x
    show h'.get? a = some { cls := .none, data := .fields ps }
    exact k a _ (.inl rfl) e
  | met f y =>
    have e : h.get? a = some (PySem.W.methodObj (.ref f) (.ref y)) := x
    show h'.get? a = some (PySem.W.methodObj (.ref f) (.ref y))
    exact k a _ (.inl rfl) e
  | ext φ => obtain ⟨p, ⟨o, e⟩, st⟩ := x; exact ⟨st _ _ p fun o q => k _ _ (.inl rfl) q, ⟨o, k _ _ (.inl rfl) e⟩, st⟩
theorem HOk.lt (x : HOk P w H h) (e : H a = some o) : a < h.objs.size := (x a o e).lt
theorem HOk.fresh (x : HOk P w H h) (e : h.objs.size ≤ a) : H a = none := by
  cases q : H a with
  | none => rfl
  | some u => exact absurd (Nat.lt_of_lt_of_le (x.lt q) e) (Nat.lt_irrefl _)
theorem HOk.kept (x : HOk P w H h) (k : ∀ b u, h.get? b = some u → h'.get? b = some u) : HOk P w H h' := fun a o e =>
  (x a o e).stay (fun b u _ q => k b u q) (fun _ q => q) fun _ _ q => q
theorem HOk.laid (x : HOk P w H h) (k : ∀ b u, h.get? b = some u → h'.get? b = some u) (hp : h.objs.size ≤ a) (new : ObjOk P w (upd H a o) h' a o) : HOk P w (upd H a o) h' := fun b u e => by
  have hn := x.fresh hp
  by_cases hb : b = a
  · subst hb; rw [upd_same] at e; cases e; exact new
  · rw [upd_ne hb] at e
    exact (x b u e).stay (fun c v _ q => k c v q) (fun c q => by rw [upd_ne (ne_of_none q hn)]; exact q) fun c xs q => by rw [upd_ne (ne_of_none q hn)]; exact q
end
def Rd (H : Hp) (a : Addr) (u : HO) : Prop := H a = some u ∨ ∃ o, H a = some (.frz o u)
theorem Rd.of {H : Hp} {a : Addr} {u : HO} (h : H a = some u) : Rd H a u := .inl h
theorem Rd.ok {P : Program} {w : World} {H : Hp} {h : Heap} {a : Addr} {u : HO} (r : Rd H a u) (x : HOk P w H h) : ObjOk P w H h a u := by
  rcases r with r | ⟨o, r⟩
  · exact x a u r
  · obtain ⟨_, q⟩ := x a _ r
    exact q
def Mut : Option HO → Prop
  | some (.lst _) => True
  | some (.dK _) => True
  | some (.dT _) => True
  | some (.dct _ _) => True
  | some (.set _ _) => True
  | some (.ins _ _ _) => True
  | some (.ext _) => True
  | _ => False
section
variable {P : Program} {w : World} {H : Hp} {h h' : Heap} {x e : Addr} {o' : HO}
theorem HOk.write (ok : HOk P w H h) (mu : Mut (H x)) (he : e = x ∨ H e = some (.own x)) (k : ∀ b u, b ≠ e → h.get? b = some u → h'.get? b = some u) (heo : ∃ u, h'.get? e = some u)
    (new : ObjOk P w (upd H x o') h' x o') : HOk P w (upd H x o') h' := fun b u q => by
  have nown : ∀ c y, H c = some (.own y) → c ≠ x := fun c y r z => by subst z; rw [r] at mu; exact mu
  have ntup : ∀ c xs, H c = some (.tup xs) → c ≠ x := fun c xs r z => by subst z; rw [r] at mu; exact mu
  by_cases hb : b = x
  · subst hb; rw [upd_same] at q; cases q; exact new
  · rw [upd_ne hb] at q
    by_cases hbe : b = e
    · have q' : H b = some (.own x) := by
        rcases he with z | z
        · exact absurd (hbe.trans z) hb
        · rw [hbe]; exact z
      rw [q] at q'; cases q'
      obtain ⟨v, hv⟩ := heo
      exact ⟨v, by rw [hbe]; exact hv⟩
    · refine (ok b u q).stay (fun c v hc r => k c v ?_ r) (fun c r => by rw [upd_ne (nown c b r)]; exact r) fun c xs r => by rw [upd_ne (ntup c xs r)]; exact r
      rcases hc with rfl | hc
      · exact hbe
      · rintro rfl
        rcases he with z | z
        · exact nown c b hc z
        · rw [hc] at z; cases z; exact hb rfl
end
structure Un (fs ex : List Addr) (H H' : Hp) (h h' : Heap) : Prop where
  keep : ∀ b o, h.get? b = some o → H b = none → b ∉ fs → b ∉ ex → h'.get? b = some o
  slot : ∀ b o, h.get? b = some o → H b = none → b ∈ fs → b ∉ ex → ∃ sl, h'.get? b = some { o with slots := sl }
  free : ∀ b o, h.get? b = some o → H b = none → b ∉ ex → H' b = none
  there : ∀ b o, h.get? b = some o → b ∉ ex → ∃ o', h'.get? b = some o'
  tups : ∀ b xs, H b = some (.tup xs) → H' b = some (.tup xs)
  frzs : ∀ b o u, H b = some (.frz o u) → H' b = some (.frz o u)
  tbls : ∀ b ps, H b = some (.tbl ps) → ∃ more, H' b = some (.tbl (ps ++ more))
section
variable {fs fs' ex ex' : List Addr} {H H1 H2 : Hp} {h h1 h2 h' : Heap} {a x e : Addr} {o : HO}
theorem Un.any (u : Un fs ex H H1 h h1) {b : Addr} {ob : Obj} (q : h.get? b = some ob) (n : H b = none) (hx : b ∉ ex) : ∃ sl, h1.get? b = some { ob with slots := sl } := by
  by_cases hb : b ∈ fs
  · exact u.slot b ob q n hb hx
  · exact ⟨ob.slots, u.keep b ob q n hb hx⟩
theorem Un.trans (a : Un fs ex H H1 h h1) (b : Un fs ex H1 H2 h1 h2) : Un fs ex H H2 h h2 where
  keep := fun c ob q n hc hx => b.keep c ob (a.keep c ob q n hc hx) (a.free c ob q n hx) hc hx
  slot := fun c ob q n hc hx => by
    obtain ⟨sl, e1⟩ := a.slot c ob q n hc hx
    obtain ⟨sl', e2⟩ := b.slot c _ e1 (a.free c ob q n hx) hc hx
    exact ⟨sl', e2⟩
  free := fun c ob q n hx => by
    obtain ⟨o', e1⟩ := a.there c ob q hx
    exact b.free c o' e1 (a.free c ob q n hx) hx
  there := fun c ob q hx => by
    obtain ⟨o', e1⟩ := a.there c ob q hx
    exact b.there c o' e1 hx
  tups := fun c xs q => b.tups c xs (a.tups c xs q)
  frzs := fun c ob xs q => b.frzs c ob xs (a.frzs c ob xs q)
  tbls := fun c ps q => by
    obtain ⟨m1, e1⟩ := a.tbls c ps q
    obtain ⟨m2, e2⟩ := b.tbls c _ e1
    exact ⟨m1 ++ m2, by rw [e2, Array.append_assoc]⟩
theorem Un.kept (k : ∀ b u, h.get? b = some u → h'.get? b = some u) : Un fs ex H H h h' :=
  ⟨fun b ob q _ _ _ => k b ob q, fun b ob q _ _ _ => ⟨ob.slots, k b ob q⟩, fun _ _ _ n _ => n, fun b ob q _ => ⟨ob, k b ob q⟩, fun _ _ q => q, fun _ _ _ q => q, fun _ ps q => ⟨#[], by rw [q]; simp⟩⟩
theorem Un.refl : Un fs ex H H h h := Un.kept fun _ _ q => q
theorem Un.laid (k : ∀ b u, h.get? b = some u → h'.get? b = some u) (hp : h.objs.size ≤ a) (hn : H a = none) : Un fs ex H (upd H a o) h h' where
  keep := fun b u q _ _ _ => k b u q
  slot := fun b u q _ _ _ => ⟨u.slots, k b u q⟩
  free := fun b u q n _ => by rw [upd_ne (Nat.ne_of_lt (Nat.lt_of_lt_of_le (Heap.lt_size q) hp))]; exact n
  there := fun b u q _ => ⟨u, k b u q⟩
  tups := fun b xs q => by rw [upd_ne (ne_of_none q hn)]; exact q
  frzs := fun b u xs q => by rw [upd_ne (ne_of_none q hn)]; exact q
  tbls := fun b ps q => ⟨#[], by rw [upd_ne (ne_of_none q hn), q]; simp⟩
theorem Un.write (mu : Mut (H x)) (he : e = x ∨ H e = some (.own x)) (k : ∀ b u, b ≠ e → h.get? b = some u → h'.get? b = some u) (heo : ∃ u, h'.get? e = some u) : Un fs ex H (upd H x o) h h' := by
  have hx : ∀ b, H b = none → b ≠ x := fun b n z => by subst z; rw [n] at mu; exact mu
  have hb : ∀ b, H b = none → b ≠ e := fun b n z => by
    subst z
    rcases he with r | r
    · exact hx b n r
    · rw [n] at r; cases r
  have hm : ∀ b u, H b = some u → ¬ Mut (some u) → b ≠ x := fun b u q nm z => by subst z; rw [q] at mu; exact nm mu
  refine ⟨fun b u q n _ _ => k b u (hb b n) q, fun b u q n _ _ => ⟨u.slots, k b u (hb b n) q⟩, fun b u q n _ => by rw [upd_ne (hx b n)]; exact n, fun b u q _ => ?_,
    fun b xs q => by rw [upd_ne (hm b _ q fun z => z)]; exact q, fun b u xs q => by rw [upd_ne (hm b _ q fun z => z)]; exact q, fun b ps q => ⟨#[], by rw [upd_ne (hm b _ q fun z => z), q]; simp⟩⟩
  by_cases hbe : b = e
  · subst hbe; exact heo
  · exact ⟨u, k b u hbe q⟩
theorem Un.mono (u : Un fs ex H H1 h h1) (hs : ∀ b ∈ fs, b ∈ fs') (hx : ∀ b ∈ ex, b ∈ ex') : Un fs' ex' H H1 h h1 :=
  ⟨fun b ob q n hb he => u.keep b ob q n (fun z => hb (hs b z)) fun z => he (hx b z), fun _ _ q n _ he => u.any q n fun z => he (hx _ z), fun b ob q n he => u.free b ob q n fun z => he (hx b z), fun b ob q he => u.there b ob q fun z => he (hx b z), u.tups, u.frzs, u.tbls⟩
end
def trk (h : Heap) (H : Hp) : List Addr := (List.range h.objs.size).filter fun a => (H a).isSome
def hidT (h : Heap) (H : Hp) : Heap := PySem.W.hideAll h (trk h H)
theorem hidT_size (h : Heap) (H : Hp) : (hidT h H).objs.size = h.objs.size := PySem.W.hideAll_size _ _
theorem hidT_get {h : Heap} {H : Hp} {b : Addr} {o : Obj} (e : h.get? b = some o) (n : H b = none) : (hidT h H).get? b = some o :=
  PySem.W.hideAll_get _ e fun hm => by
    have q : (H b).isSome = true := (List.mem_filter.mp hm).2
    rw [n] at q; simp at q
theorem of_hidT {h : Heap} {H : Hp} {b : Addr} {o : Obj} (e : (hidT h H).get? b = some o) : h.get? b = some o ∧ H b = none := by
  have e' : h.get? b = some o := PySem.W.of_hideAll (trk h H) e
  refine ⟨e', ?_⟩
  cases q : H b with
  | none => rfl
  | some x =>
    have hm : b ∈ trk h H := List.mem_filter.mpr ⟨List.mem_range.mpr (Heap.lt_size e'), by simp [q]⟩
    have z : (hidT h H).get? b = none := PySem.W.hideAll_none (trk h H) hm
    rw [z] at e; cases e
def allNews (g h : Heap) (L : Addr) : List (Addr × Obj) := (List.range h.objs.size).filterMap fun a => if a = L ∨ (g.get? a).isSome = true then none else (h.get? a).map fun o => (a, o)
def rest (g h : Heap) (L d : Addr) : List (Addr × Obj) := (allNews g h L).filter fun p => decide (p.1 ≠ d)
end L2
namespace L2
open PySem PySem.Spec PyProof.Rows
structure Mod (K : PySem.W.Frag) (mg : Str → Option Value) (base : Heap) : Prop where
  kin : K.In base
  glob : base.Ns mainGlobals mg
  blt : ∃ mb, base.Ns builtinsNs mb ∧ ∀ x : Str, x ≠ "__name__" → mb x = bootBuiltins x
  nolimit : base.NoLimit
structure Cx where
  prog : Program
  w : World
  K : PySem.W.Frag
  mg : Str → Option Value
  base : Heap
  A : Around
  N : List Str
  s₀ : Shared
  H₀ : Hp
  env : Env
  outer : List Env
  stack : List Env
  ex : List Addr
  fn : Str → Bool
  calm : Bool
  pn : List (Addr × Obj)
  xe : Value → Shared → Prop
def frs (l : List Env) : List Addr := l.filterMap (·.frame)
abbrev Cx.fs (X : Cx) : List Addr := frs X.outer
def Vis (sc : Scope) (x : Str) : Prop := sc.names.lookup x = some .local ∨ sc.names.lookup x = some .cell ∨ sc.names.lookup x = some .free
def Loc (sc : Scope) (x : Str) : Prop := sc.names.lookup x = some .local ∨ sc.names.lookup x = some .cell
def Look (env : Env) (h : Heap) (m : Str → Option Value) (x : Str) (u : Value) : Prop :=
  (env.kindOf x = some .local ∧ m x = some u) ∨ ((env.kindOf x = some .cell ∨ env.kindOf x = some .free) ∧ ∃ c, env.cells.lookup x = some c ∧ h.IsCell c (some u))
structure Cx.Ok (X : Cx) : Prop where
  mod : Mod X.K X.mg X.base
  kind : X.env.scope.kind = .function
  glob : X.env.globals = mainGlobals
  blt : X.env.builtins = builtinsNs
  above : X.s₀.heap.objs.size ≤ X.env.locals
  inj : ∀ x y c, X.env.cells.lookup x = some c → X.env.cells.lookup y = some c → x = y
  has : ∀ x, (X.env.kindOf x = some .cell ∨ X.env.kindOf x = some .free) → ∃ c, X.env.cells.lookup x = some c
  cab : ∀ x c, X.fn x = true → X.env.cells.lookup x = some c → X.s₀.heap.objs.size ≤ c
  hd : X.calm = true → X.A.handled = none
  frames : X.A.frames = some X.stack
  stk : X.stack = X.outer ∨ (X.stack = X.env :: X.outer ∧ X.env.frame = some X.env.locals)
  exf : ∀ b ∈ X.ex, b ≠ X.env.locals ∧ ∀ x c, X.env.cells.lookup x = some c → c ≠ b
  bs : ∀ b o, X.base.get? b = some o → X.s₀.heap.get? b = some o ∧ X.H₀ b = none
  bsz : X.base.objs.size ≤ X.s₀.heap.objs.size
  noex : ∀ b o, X.base.get? b = some o → b ∉ X.ex
  exfs : ∀ b ∈ X.ex, b ∉ X.fs
  funs : X.s₀.heap.FunFrames X.base X.outer
  frf : ∀ b ∈ X.fs, X.H₀ b = none
structure Inv (X : Cx) (pins : List (Addr × Obj)) (σ : List (Option V)) (H : Hp) (s : Shared) : Prop where
  ok : X.Ok
  os : s.os = X.s₀.os
  bare : AllBare s.gens
  base : Un X.fs X.ex X.H₀ H X.s₀.heap s.heap
  loc : ∃ m, s.heap.Ns X.env.locals m ∧ ∀ (i : Nat) (x : Str) (v : V), X.N[i]? = some x → σ[i]? = some (some v) → Vis X.env.scope x → ∃ u, RelV v u ∧ Look X.env s.heap m x u
  cell : ∀ x c, X.env.cells.lookup x = some c → ∃ v, s.heap.IsCell c v
  free : H X.env.locals = none
  freeC : ∀ x c, X.env.cells.lookup x = some c → H c = none
  pin : ∀ p ∈ X.pn ++ pins, s.heap.get? p.1 = some p.2 ∧ H p.1 = none ∧ p.1 ≠ X.env.locals ∧ p.1 ∉ X.fs ∧ ∀ v, p.2.data ≠ .cell v
  hok : HOk X.prog X.w H s.heap
  len : σ.length = X.N.length
section
variable {X : Cx} {pins : List (Addr × Obj)} {σ : List (Option V)} {H H' : Hp} {s : Shared} {h' : Heap}
theorem Cx.Ok.nofr (ok : X.Ok) {b : Addr} {o : Obj} (e : X.base.get? b = some o) : b ∉ X.fs := fun hb => by
  have := (ok.funs.mem hb).1
  rw [e] at this; cases this
theorem Inv.bs (I : Inv X pins σ H s) : ∀ b o, X.base.get? b = some o → s.heap.get? b = some o ∧ H b = none := fun b o e =>
  ⟨I.base.keep b o (I.ok.bs b o e).1 (I.ok.bs b o e).2 (I.ok.nofr e) (I.ok.noex b o e), I.base.free b o (I.ok.bs b o e).1 (I.ok.bs b o e).2 (I.ok.noex b o e)⟩
theorem Inv.bk (I : Inv X pins σ H s) : ∀ b o, X.base.get? b = some o → s.heap.get? b = some o := fun b o e => (I.bs b o e).1
theorem Inv.mod (I : Inv X pins σ H s) : Mod X.K X.mg X.base := I.ok.mod
theorem Inv.kIn (I : Inv X pins σ H s) : X.K.In s.heap := I.ok.mod.kin.keeps I.bk
theorem Inv.nolimit (I : Inv X pins σ H s) : s.heap.NoLimit := I.ok.mod.nolimit.keeps I.bk
theorem Inv.lt (I : Inv X pins σ H s) : X.env.locals < s.heap.objs.size := let ⟨_, hn, _⟩ := I.loc; hn.lt
theorem Inv.sz (I : Inv X pins σ H s) : X.s₀.heap.objs.size ≤ s.heap.objs.size := Nat.le_trans I.ok.above (Nat.le_of_lt I.lt)
theorem Inv.nofs (I : Inv X pins σ H s) {a : Addr} (h : s.heap.objs.size ≤ a) : a ∉ X.fs := fun hb => by
  obtain ⟨_, o, ho, _⟩ := I.ok.funs.mem hb
  exact absurd (Nat.lt_of_lt_of_le (Heap.lt_size ho) (Nat.le_trans I.sz h)) (Nat.lt_irrefl _)
theorem Inv.cne (I : Inv X pins σ H s) : ∀ x c, X.env.cells.lookup x = some c → c ≠ X.env.locals := fun x c e z => by
  obtain ⟨v, o, ho, hd⟩ := I.cell x c e
  obtain ⟨m, ⟨o', es, ep, ho', hd', _⟩, _⟩ := I.loc
  rw [z, ho'] at ho; cases ho; rw [hd'] at hd; cases hd
theorem Inv.funs (I : Inv X pins σ H s) : s.heap.FunFrames X.base X.outer := by
  have all : ∀ (l : List Env), (∀ b ∈ frs l, b ∈ X.fs) → X.s₀.heap.FunFrames X.base l → s.heap.FunFrames X.base l := by
    intro l
    induction l with
    | nil => intro _ _; trivial
    | cons env r ih =>
      intro hs hl
      obtain ⟨hk, ⟨L, o, hf, hn, ho, hd⟩, hr⟩ := hl
      have hL : L ∈ X.fs := hs L (by unfold frs; rw [List.filterMap_cons, hf]; exact List.mem_cons_self)
      obtain ⟨sl, e⟩ := I.base.slot L o ho (I.ok.frf L hL) hL fun z => I.ok.exfs L z hL
      exact ⟨hk, ⟨L, _, hf, hn, e, hd⟩, ih (fun b hb => hs b (by unfold frs; rw [List.filterMap_cons, hf]; exact List.mem_cons_of_mem _ hb)) hr⟩
  exact all X.outer (fun _ hb => hb) I.ok.funs
theorem Inv.stack (I : Inv X pins σ H s) : s.heap.FunFrames X.base X.stack := by
  rcases I.ok.stk with e | ⟨e, hf⟩
  · rw [e]; exact I.funs
  · rw [e]
    obtain ⟨m, hn, _⟩ := I.loc
    refine .cons (by rw [I.ok.kind]; decide) hf hn ?_ I.funs
    exact Heap.get?_none_of_le (Nat.le_trans I.ok.bsz I.ok.above)
theorem Inv.stkSub (I : Inv X pins σ H s) : ∀ b ∈ frs X.stack, b ∈ X.env.locals :: X.fs := fun b hb => by
  rcases I.ok.stk with e | ⟨e, hf⟩
  · rw [e] at hb; exact List.mem_cons_of_mem _ hb
  · rw [e] at hb
    unfold frs at hb
    rw [List.filterMap_cons, hf] at hb
    exact hb
theorem Inv.stkFree (I : Inv X pins σ H s) : ∀ b ∈ frs X.stack, H b = none := fun b hb => by
  rcases List.mem_cons.mp (I.stkSub b hb) with e | hb
  · rw [e]; exact I.free
  · obtain ⟨_, o, ho, _⟩ := I.ok.funs.mem hb
    exact I.base.free b o ho (I.ok.frf b hb) fun z => I.ok.exfs b z hb
theorem Inv.step {g' : Array GenState} {t' : Nat} {d' : Drawn} {ch : List Addr} (I : Inv X pins σ H s)
    (hch : ∀ b ∈ ch, (b ∈ X.ex ∨ X.s₀.heap.objs.size ≤ b) ∧ b ≠ X.env.locals ∧ (∀ x c, X.env.cells.lookup x = some c → c ≠ b) ∧ ∀ p ∈ X.pn ++ pins, p.1 ≠ b)
    (keep : ∀ b o, b ≠ X.env.locals → b ∉ X.fs → b ∉ ch → s.heap.get? b = some o → H b = none → h'.get? b = some o)
    (slot : ∀ b o, b ≠ X.env.locals → b ∈ X.fs → b ∉ ch → s.heap.get? b = some o → H b = none → ∃ sl, h'.get? b = some { o with slots := sl }) (free : ∀ b o, b ∉ ch → s.heap.get? b = some o → H b = none → H' b = none)
    (there : ∀ b o, b ∉ ch → s.heap.get? b = some o → ∃ o', h'.get? b = some o')
    (tups : ∀ b xs, H b = some (.tup xs) → H' b = some (.tup xs)) (frzs : ∀ b o u, H b = some (.frz o u) → H' b = some (.frz o u)) (tbls : ∀ b ps, H b = some (.tbl ps) → ∃ more, H' b = some (.tbl (ps ++ more)))
    (ns : ∀ m, s.heap.Ns X.env.locals m → h'.Ns X.env.locals m) (hok : HOk X.prog X.w H' h') (hg : AllBare g') :
    Inv X pins σ H' { s with heap := h', gens := g', drawn := d', toks := t' } := by
  have neL : ∀ b o, X.s₀.heap.get? b = some o → b ≠ X.env.locals := fun b o e => Nat.ne_of_lt (Nat.lt_of_lt_of_le (Heap.lt_size e) I.ok.above)
  have neC : ∀ b o, X.s₀.heap.get? b = some o → b ∉ X.ex → b ∉ ch := fun b o e hx hb => by
    rcases (hch b hb).1 with z | z
    · exact hx z
    · exact absurd (Nat.lt_of_lt_of_le (Heap.lt_size e) z) (Nat.lt_irrefl _)
  have cellK : ∀ x c, X.env.cells.lookup x = some c → ∀ v, s.heap.IsCell c v → h'.IsCell c v := fun x c e v ⟨o, ho, hd⟩ => by
    have nch : c ∉ ch := fun z => (hch c z).2.2.1 x c e rfl
    by_cases hc : c ∈ X.fs
    · obtain ⟨sl, q⟩ := slot c o (I.cne x c e) hc nch ho (I.freeC x c e)
      exact ⟨_, q, hd⟩
    · exact ⟨o, keep c o (I.cne x c e) hc nch ho (I.freeC x c e), hd⟩
  refine ⟨I.ok, I.os, hg, ⟨fun b o e n hb hx => ?_, fun b o e n hb hx => ?_, fun b o e n hx => ?_, fun b o e hx => ?_, fun b xs e => tups b xs (I.base.tups b xs e), fun b o xs e => frzs b o xs (I.base.frzs b o xs e), fun b ps e => ?_⟩, ?_, fun x c e => ?_, ?_, fun x c e => ?_, fun p hp => ?_, hok, I.len⟩
  · exact keep b o (neL b o e) hb (neC b o e hx) (I.base.keep b o e n hb hx) (I.base.free b o e n hx)
  · obtain ⟨sl, e1⟩ := I.base.slot b o e n hb hx
    obtain ⟨sl', e2⟩ := slot b _ (neL b o e) hb (neC b o e hx) e1 (I.base.free b o e n hx)
    exact ⟨sl', e2⟩
  · obtain ⟨o', e1⟩ := I.base.there b o e hx
    exact free b o' (neC b o e hx) e1 (I.base.free b o e n hx)
  · obtain ⟨o', e1⟩ := I.base.there b o e hx
    exact there b o' (neC b o e hx) e1
  · obtain ⟨m1, e1⟩ := I.base.tbls b ps e
    obtain ⟨m2, e2⟩ := tbls b _ e1
    exact ⟨m1 ++ m2, by rw [e2, Array.append_assoc]⟩
  · obtain ⟨m, hn, hl⟩ := I.loc
    refine ⟨m, ns m hn, fun i x v e1 e2 e3 => ?_⟩
    obtain ⟨u, r, l⟩ := hl i x v e1 e2 e3
    refine ⟨u, r, ?_⟩
    rcases l with l | ⟨k, c, e, z⟩
    · exact .inl l
    · exact .inr ⟨k, c, e, cellK x c e _ z⟩
  · obtain ⟨v, z⟩ := I.cell x c e
    exact ⟨v, cellK x c e v z⟩
  · obtain ⟨m, ⟨o, _, _, ho, _⟩, _⟩ := I.loc
    exact free _ o (fun z => (hch _ z).2.1 rfl) ho I.free
  · obtain ⟨v, o, ho, hd⟩ := I.cell x c e
    exact free c o (fun z => (hch c z).2.2.1 x c e rfl) ho (I.freeC x c e)
  · obtain ⟨e, n, ne, nf, d⟩ := I.pin p hp
    have nch : p.1 ∉ ch := fun z => (hch p.1 z).2.2.2 p hp rfl
    exact ⟨keep p.1 p.2 ne nf nch e n, free p.1 p.2 nch e n, ne, nf, d⟩
theorem Inv.un {t' : Nat} (I : Inv X pins σ H s) (u : Un X.fs [] H H' s.heap h') (hok : HOk X.prog X.w H' h') : Inv X pins σ H' { s with heap := h', toks := t' } := by
  obtain ⟨m, ⟨o, es, ep, ho, r⟩, _⟩ := id I.loc
  obtain ⟨sl, hL⟩ := u.any ho I.free (by simp)
  exact I.step (g' := s.gens) (d' := s.drawn) (ch := []) (fun _ z => nomatch z) (fun b o _ hb _ e n => u.keep b o e n hb (by simp)) (fun b o _ hb _ e n => u.slot b o e n hb (by simp)) (fun b o _ e n => u.free b o e n (by simp)) (fun b o _ e => u.there b o e (by simp)) u.tups u.frzs u.tbls (fun m' hm => by
    obtain ⟨o', es', ep', ho', r'⟩ := hm
    rw [ho] at ho'; cases ho'
    exact ⟨_, es', ep', hL, r'⟩) hok I.bare
theorem Inv.call {g' : Array GenState} {t' : Nat} {d' : Drawn} {ch : List Addr} (I : Inv X pins σ H s) (u : Un (frs X.stack) ch H H' s.heap h') (hok : HOk X.prog X.w H' h') (hg : AllBare g')
    (hch : ∀ b ∈ ch, (b ∈ X.ex ∨ X.s₀.heap.objs.size ≤ b) ∧ b ≠ X.env.locals ∧ (∀ x c, X.env.cells.lookup x = some c → c ≠ b) ∧ ∀ p ∈ X.pn ++ pins, p.1 ≠ b) :
    Inv X pins σ H' { s with heap := h', gens := g', drawn := d', toks := t' } := by
  obtain ⟨m, ⟨o, es, ep, ho, r⟩, _⟩ := id I.loc
  obtain ⟨sl, hL⟩ := u.any ho I.free fun z => (hch _ z).2.1 rfl
  exact I.step (ch := ch) hch (fun b o hL hb hc e n => u.keep b o e n (fun z => (List.mem_cons.mp (I.stkSub b z)).elim hL hb) hc) (fun b o _ _ hc e n => u.any e n hc) (fun b o hc e n => u.free b o e n hc) (fun b o hc e => u.there b o e hc) u.tups u.frzs u.tbls (fun m' hm => by
    obtain ⟨o', es', ep', ho', r'⟩ := hm
    rw [ho] at ho'; cases ho'
    exact ⟨_, es', ep', hL, r'⟩) hok hg
theorem Inv.turned {t' : Nat} {it : Addr} (I : Inv X pins σ H s) (k : ∀ b o, b ≠ it → s.heap.get? b = some o → h'.get? b = some o) (hn : H it = none) (hL : it ≠ X.env.locals)
    (h1 : it ∈ X.ex ∨ X.s₀.heap.objs.size ≤ it) (h2 : ∀ x c, X.env.cells.lookup x = some c → c ≠ it) (h3 : ∀ p ∈ X.pn ++ pins, p.1 ≠ it) : Inv X pins σ H { s with heap := h', toks := t' } := by
  have nit : ∀ b u, H b = some u → b ≠ it := fun b u e z => by rw [z, hn] at e; cases e
  refine I.step (g' := s.gens) (d' := s.drawn) (ch := [it]) (fun b hb => ?_) (fun b o _ _ hc e _ => k b o (fun z => hc (by simp [z])) e) (fun b o _ _ hc e _ => ⟨o.slots, k b o (fun z => hc (by simp [z])) e⟩) (fun _ _ _ _ n => n)
    (fun b o hc e => ⟨o, k b o (fun z => hc (by simp [z])) e⟩) (fun _ _ e => e) (fun _ _ _ e => e) (fun b ps e => ⟨#[], by rw [e]; simp⟩) (fun m hm => ?_) (fun b u e => ?_) I.bare
  · have e : b = it := by simpa using hb
    subst e
    exact ⟨h1, hL, h2, h3⟩
  · obtain ⟨o, es, ep, ho, r⟩ := hm
    exact ⟨o, es, ep, k _ o (Ne.symm hL) ho, r⟩
  · refine (I.hok b u e).stay (fun c v hc q => k c v ?_ q) (fun _ q => q) fun _ _ q => q
    rcases hc with z | z
    · rw [z]; exact nit b u e
    · exact nit c _ z
theorem Inv.tok (I : Inv X pins σ H s) (t : Nat) : Inv X pins σ H { s with toks := t } := I.un (h' := s.heap) (t' := t) Un.refl I.hok
theorem Inv.kept {t' : Nat} (I : Inv X pins σ H s) (k : ∀ b u, s.heap.get? b = some u → h'.get? b = some u) : Inv X pins σ H { s with heap := h', toks := t' } := I.un (Un.kept k) (I.hok.kept k)
theorem Inv.laid {a : Addr} {o : HO} {t' : Nat} (I : Inv X pins σ H s) (k : ∀ b u, s.heap.get? b = some u → h'.get? b = some u) (hp : s.heap.objs.size ≤ a) (new : ObjOk X.prog X.w (upd H a o) h' a o) :
    Inv X pins σ (upd H a o) { s with heap := h', toks := t' } := I.un (Un.laid k hp (I.hok.fresh hp)) (I.hok.laid k hp new)
theorem Inv.write {x e : Addr} {o : HO} {t' : Nat} (I : Inv X pins σ H s) (mu : Mut (H x)) (he : e = x ∨ H e = some (.own x)) (k : ∀ b u, b ≠ e → s.heap.get? b = some u → h'.get? b = some u) (heo : ∃ u, h'.get? e = some u)
    (new : ObjOk X.prog X.w (upd H x o) h' x o) : Inv X pins σ (upd H x o) { s with heap := h', toks := t' } := I.un (Un.write mu he k heo) (I.hok.write mu he k heo new)
theorem Inv.weak {σ' : List (Option V)} (I : Inv X pins σ H s) (hl : σ'.length = σ.length) (w : ∀ (i : Nat) v, σ'[i]? = some (some v) → σ[i]? = some (some v)) : Inv X pins σ' H s :=
  ⟨I.ok, I.os, I.bare, I.base, let ⟨m, hn, hl'⟩ := I.loc; ⟨m, hn, fun i x v e1 e2 e3 => hl' i x v e1 (w i v e2) e3⟩, I.cell, I.free, I.freeC, I.pin, I.hok, hl.trans I.len⟩
theorem Inv.pins_of {pins' : List (Addr × Obj)} (I : Inv X pins σ H s) (h : ∀ p ∈ pins', s.heap.get? p.1 = some p.2 ∧ H p.1 = none ∧ p.1 ≠ X.env.locals ∧ p.1 ∉ X.fs ∧ ∀ v, p.2.data ≠ .cell v) : Inv X pins' σ H s :=
  ⟨I.ok, I.os, I.bare, I.base, I.loc, I.cell, I.free, I.freeC, fun p hp => (List.mem_append.mp hp).elim (fun z => I.pin p (List.mem_append_left _ z)) (h p), I.hok, I.len⟩
theorem nodup_ix {N : List Str} (hN : N.Nodup) {i j : Nat} {x : Str} (a : N[i]? = some x) (b : N[j]? = some x) : i = j := by
  obtain ⟨h1, e1⟩ := List.getElem?_eq_some_iff.mp a
  obtain ⟨h2, e2⟩ := List.getElem?_eq_some_iff.mp b
  exact (List.getElem_inj hN).mp (e1.trans e2.symm)
theorem store_ok2 {M : Model} {A : Around} {E : Value → Shared → Prop} {i : Nat} {x : Str} {v : V} {u : Value} {Q : Unit → Shared → Prop} (I : Inv X pins σ H s) (hN : X.N.Nodup) (hi : X.N[i]? = some x) (hx : Loc X.env.scope x) (r : RelV v u)
    (h : ∀ s', Inv X pins (σ.set i (some v)) H s' → (∃ a, Heap.SameBut a s.heap s'.heap ∧ (a = X.env.locals ∨ X.env.cells.lookup x = some a)) → Q () s') (hf : X.fn x = true ∨ X.env.scope.names.lookup x = some .local := by first | exact .inl rfl | exact .inr rfl | assumption) : wpAny M A (storeName X.env x u) Q E s := by
  obtain ⟨m, hn, hl⟩ := id I.loc
  have hcls : (X.env.scope.kind == .class || (X.env.scope.kind == .module && X.env.locals != X.env.globals)) = false := by rw [I.ok.kind]; rfl
  have hiσ : i < σ.length := by rw [I.len]; exact (List.getElem?_eq_some_iff.mp hi).1
  have cne := I.cne
  have tracked : ∀ {a : Addr} {h' : Heap}, (∃ o, s.heap.get? a = some o ∧ H a = none) → Heap.SameBut a s.heap h' → HOk X.prog X.w H h' := fun {a h'} ha hs b ob e => by
    obtain ⟨_, _, hfree⟩ := ha
    refine (I.hok b ob e).stay (fun c w' hc q => (hs.2 c ?_).trans q) (fun _ q => q) fun _ _ q => q
    rintro rfl
    rcases hc with rfl | hc
    · rw [hfree] at e; cases e
    · rw [hfree] at hc; cases hc
  rcases hx with hk | hk
  · refine wpAny_storeName_local hk hn (fun h' hn' hs => ?_) hcls
    obtain ⟨oL, _, _, hoL, _⟩ := id hn
    refine h _ ⟨I.ok, I.os, I.bare, ⟨fun b o e n hb hx => ?_, fun b o e n hb hx => ?_, I.base.free, fun b o e hx => ?_, I.base.tups, I.base.frzs, I.base.tbls⟩, ⟨_, hn', fun j y v' e1 e2 e3 => ?_⟩, fun y c e => ?_, I.free, I.freeC, fun p hp => ?_, tracked ⟨oL, hoL, I.free⟩ hs, by simpa using I.len⟩ ⟨_, hs, .inl rfl⟩
    · exact (hs.2 b (Nat.ne_of_lt (Nat.lt_of_lt_of_le (Heap.lt_size e) I.ok.above))).trans (I.base.keep b o e n hb hx)
    · obtain ⟨sl, e1⟩ := I.base.slot b o e n hb hx
      exact ⟨sl, (hs.2 b (Nat.ne_of_lt (Nat.lt_of_lt_of_le (Heap.lt_size e) I.ok.above))).trans e1⟩
    · obtain ⟨o', e1⟩ := I.base.there b o e hx
      exact ⟨o', (hs.2 b (Nat.ne_of_lt (Nat.lt_of_lt_of_le (Heap.lt_size e) I.ok.above))).trans e1⟩
    · by_cases hj : j = i
      · subst hj
        rw [hi] at e1; cases e1
        rw [List.getElem?_set_self hiσ] at e2
        cases e2
        exact ⟨u, r, .inl ⟨hk, by simp⟩⟩
      · rw [List.getElem?_set_ne (Ne.symm hj)] at e2
        obtain ⟨u', r', q⟩ := hl j y v' e1 e2 e3
        refine ⟨u', r', ?_⟩
        rcases q with ⟨k, e⟩ | ⟨k, c, e, z⟩
        · refine .inl ⟨k, ?_⟩
          have : y ≠ x := fun e => hj (nodup_ix hN e1 (e ▸ hi))
          simp [this, e]
        · exact .inr ⟨k, c, e, z.sameBut hs (cne y c e)⟩
    · obtain ⟨w', z⟩ := I.cell y c e
      exact ⟨w', z.sameBut hs (cne y c e)⟩
    · obtain ⟨e, n, ne, nf, d⟩ := I.pin p hp
      exact ⟨(hs.2 p.1 ne).trans e, n, ne, nf, d⟩
  · have hfn : X.fn x = true := by
      rcases hf with z | z
      · exact z
      · rw [z] at hk; cases hk
    obtain ⟨c, hc⟩ := I.ok.has x (.inl hk)
    obtain ⟨w', z⟩ := I.cell x c hc
    refine wpAny_storeName_cell I.ok.kind hk hc z (fun h' hc' hs => ?_)
    obtain ⟨oc, hoc, hocd⟩ := id z
    refine h { s with heap := h' } ⟨I.ok, I.os, I.bare, ⟨fun b o e n hb hx => ?_, fun b o e n hb hx => ?_, I.base.free, fun b o e hx => ?_, I.base.tups, I.base.frzs, I.base.tbls⟩, ⟨m, hn.sameBut hs (Ne.symm (cne x c hc)), fun j y v' e1 e2 e3 => ?_⟩, fun y c' e => ?_, I.free, I.freeC, fun p hp => ?_, tracked ⟨oc, hoc, I.freeC x c hc⟩ hs, by simpa using I.len⟩ ⟨c, hs, .inr hc⟩
    · exact (hs.2 b (Nat.ne_of_lt (Nat.lt_of_lt_of_le (Heap.lt_size e) (I.ok.cab x c hfn hc)))).trans (I.base.keep b o e n hb hx)
    · obtain ⟨sl, e1⟩ := I.base.slot b o e n hb hx
      exact ⟨sl, (hs.2 b (Nat.ne_of_lt (Nat.lt_of_lt_of_le (Heap.lt_size e) (I.ok.cab x c hfn hc)))).trans e1⟩
    · obtain ⟨o', e1⟩ := I.base.there b o e hx
      exact ⟨o', (hs.2 b (Nat.ne_of_lt (Nat.lt_of_lt_of_le (Heap.lt_size e) (I.ok.cab x c hfn hc)))).trans e1⟩
    · by_cases hj : j = i
      · subst hj
        rw [hi] at e1; cases e1
        rw [List.getElem?_set_self hiσ] at e2
        cases e2
        exact ⟨u, r, .inr ⟨.inl hk, c, hc, hc'⟩⟩
      · rw [List.getElem?_set_ne (Ne.symm hj)] at e2
        obtain ⟨u', r', q⟩ := hl j y v' e1 e2 e3
        refine ⟨u', r', ?_⟩
        rcases q with q | ⟨k, c', e, z'⟩
        · exact .inl q
        · refine .inr ⟨k, c', e, z'.sameBut hs ?_⟩
          rintro rfl
          exact hj (nodup_ix hN e1 (I.ok.inj _ _ _ e hc ▸ hi))
    · by_cases hcc : c' = c
      · subst hcc; exact ⟨_, hc'⟩
      · obtain ⟨w2, z2⟩ := I.cell y c' e
        exact ⟨w2, z2.sameBut hs hcc⟩
    · obtain ⟨e, n, ne, nf, d⟩ := I.pin p hp
      refine ⟨(hs.2 p.1 ?_).trans e, n, ne, nf, d⟩
      intro q
      rw [q, hoc] at e
      have q' : oc = p.2 := Option.some.inj e
      exact d w' (by rw [← q']; exact hocd)
theorem store_ok {M : Model} {A : Around} {E : Value → Shared → Prop} {i : Nat} {x : Str} {v : V} {u : Value} {Q : Unit → Shared → Prop} (I : Inv X pins σ H s) (hN : X.N.Nodup) (hi : X.N[i]? = some x) (hx : Loc X.env.scope x) (r : RelV v u)
    (h : ∀ s', Inv X pins (σ.set i (some v)) H s' → Q () s') (hf : X.fn x = true ∨ X.env.scope.names.lookup x = some .local := by first | exact .inl rfl | exact .inr rfl | assumption) : wpAny M A (storeName X.env x u) Q E s :=
  store_ok2 I hN hi hx r (fun s' I' _ => h s' I') hf
theorem Inv.call' {s' : Shared} {ch : List Addr} (I : Inv X pins σ H s) (ho : s'.os = s.os) (u : Un (frs X.stack) ch H H' s.heap s'.heap) (hok : HOk X.prog X.w H' s'.heap) (hg : AllBare s'.gens)
    (hch : ∀ b ∈ ch, (b ∈ X.ex ∨ X.s₀.heap.objs.size ≤ b) ∧ b ≠ X.env.locals ∧ (∀ x c, X.env.cells.lookup x = some c → c ≠ b) ∧ ∀ p ∈ X.pn ++ pins, p.1 ≠ b) : Inv X pins σ H' s' := by
  obtain ⟨h', g', d', t', o'⟩ := s'
  have e : o' = s.os := ho
  subst e
  exact I.call (g' := g') (t' := t') (d' := d') u hok hg hch
end
abbrev XK := Value → Option Addr → Hp → Prop
abbrev St := List (Option V)
abbrev VK := V → Hp → Prop
abbrev TE := St → Hp → VK → Prop
abbrev TT := St → Hp → (Bool → Hp → Prop) → Prop
abbrev TA := St → Hp → (List V → Hp → Prop) → Prop
structure Ends where
  nx : St → Hp → Prop
  rt : VK
  bk : St → Hp → Prop := fun _ _ => False
  ct : St → Hp → Prop := fun _ _ => False
abbrev TS := Ends → St → Hp → Prop
def EP (X : Cx) (pins : List (Addr × Obj)) (σ : St) (Q : VK) (u : Value) (s' : Shared) : Prop := ∃ v H', Inv X pins σ H' s' ∧ RelV v u ∧ Q v H'
def TP (X : Cx) (pins : List (Addr × Obj)) (σ : St) (Q : Bool → Hp → Prop) (b : Bool) (s' : Shared) : Prop := ∃ H', Inv X pins σ H' s' ∧ Q b H'
def AP (X : Cx) (pins : List (Addr × Obj)) (σ : St) (Q : List V → Hp → Prop) (us : List Value) (s' : Shared) : Prop := ∃ vs H', Inv X pins σ H' s' ∧ Vals vs us ∧ Q vs H'
def SP (X : Cx) (pins : List (Addr × Obj)) (D : Ends) (f : Flow) (s' : Shared) : Prop :=
  match f with
  | .next => ∃ σ' H', Inv X pins σ' H' s' ∧ D.nx σ' H'
  | .brk => ∃ σ' H', Inv X pins σ' H' s' ∧ D.bk σ' H'
  | .cont => ∃ σ' H', Inv X pins σ' H' s' ∧ D.ct σ' H'
  | .ret u => ∃ v σ' H', Inv X pins σ' H' s' ∧ RelV v u ∧ D.rt v H'
def PE (X : Cx) (e : Expr) (t : TE) : Prop :=
  ∀ (pins : List (Addr × Obj)) (s : Shared) (σ : St) (H : Hp) (Q : VK), Inv X pins σ H s → t σ H Q → wpAny (model X.prog X.w) X.A (eval e X.env) (EP X pins σ Q) X.xe s
def PT (X : Cx) (e : Expr) (t : TT) : Prop :=
  ∀ (pins : List (Addr × Obj)) (s : Shared) (σ : St) (H : Hp) (Q : Bool → Hp → Prop), Inv X pins σ H s → t σ H Q → wpAny (model X.prog X.w) X.A (isTrue e X.env (eval e X.env)) (TP X pins σ Q) X.xe s
def PW (X : Cx) (e : Expr) (t : TT) : Prop :=
  ∀ (whole : Sem Value) (pins : List (Addr × Obj)) (s : Shared) (σ : St) (H : Hp) (Q : Bool → Hp → Prop), Inv X pins σ H s → t σ H Q → wpAny (model X.prog X.w) X.A (isTrue e X.env whole) (TP X pins σ Q) X.xe s
theorem PW.pt {X : Cx} {e : Expr} {t : TT} (h : PW X e t) : PT X e t := h _
def PA (X : Cx) (es : List Expr) (t : TA) : Prop :=
  ∀ (pos : Pos) (pins : List (Addr × Obj)) (s : Shared) (σ : St) (H : Hp) (Q : List V → Hp → Prop), Inv X pins σ H s → t σ H Q → wpAny (model X.prog X.w) X.A (spliced (backTo pos (starEach es X.env))) (AP X pins σ Q) X.xe s
def PS (X : Cx) (st : Stmt) (t : TS) : Prop :=
  ∀ (pins : List (Addr × Obj)) (s : Shared) (σ : St) (H : Hp) (D : Ends), Inv X pins σ H s → t D σ H → wpAny (model X.prog X.w) X.A (exec st X.env) (SP X pins D) X.xe s
def PSs (X : Cx) (st : List Stmt) (t : TS) : Prop :=
  ∀ (pins : List (Addr × Obj)) (s : Shared) (σ : St) (H : Hp) (D : Ends), Inv X pins σ H s → t D σ H → wpAny (model X.prog X.w) X.A (execs st X.env) (SP X pins D) X.xe s
theorem thn {α : Type} {t : Sem α} {Q Q' : α → Shared → Prop} {M : Model} {A : Around} {E : Value → Shared → Prop} {s : Shared} (h : wpAny M A t Q E s) (hQ : ∀ a s, Q a s → Q' a s) : wpAny M A t Q' E s := wpAny_mono h hQ fun _ _ x => x
end L2
namespace L2
open PySem PySem.Spec PyProof.Rows
section
variable {X : Cx}
def tVar (i : Nat) : TE := fun σ H Q => ∃ v, σ[i]? = some (some v) ∧ Q v H
def tC (v : V) : TE := fun _ H Q => Q v H
theorem pe_var {i : Nat} {x : Str} {pos : Pos} (hN : X.N[i]? = some x) (hv : Vis X.env.scope x) (hd : (x == ("__debug__" : Str)) = false := by decide) (hcd : (x == ("__classdict__" : Str)) = false := by decide) : PE X (.Name x pos) (tVar i) := by
  intro pins s σ H Q I h
  obtain ⟨v, e, h⟩ := h
  obtain ⟨m, hn, hl⟩ := I.loc
  obtain ⟨u, r, l⟩ := hl i x v hN e hv
  have fin : EP X pins σ Q u s := ⟨v, H, I, r, h⟩
  rcases l with ⟨hk, hm⟩ | ⟨hk, c, hc, hcell⟩
  · exact wpAny_Name (wpAny_loadName_local I.ok.kind hk hn hm fin) hd
  · rcases hk with hk | hk
    · exact wpAny_Name (wpAny_loadName_cell I.ok.kind hk hc hcell fin) hd
    · exact wpAny_Name (wpAny_loadName_free I.ok.kind hk hc hcell fin hcd) hd
theorem pe_int {i j pos} : PE X (.Constant (.int i) j pos) (tC (.int i)) := fun _ _ _ H _ I h => wpAny_Constant_int ⟨.int i, H, I.tok _, ⟨_, rfl⟩, h⟩
theorem pe_bl {b j pos} : PE X (.Constant (.bool b) j pos) (tC (.bl b)) := fun _ _ _ H _ I h => Constant_bool ⟨.bl b, H, I, rfl, h⟩
theorem pe_non {j pos} : PE X (.Constant .none j pos) (tC .non) := fun _ _ _ H _ I h => Constant_none ⟨.non, H, I, rfl, h⟩
theorem pe_str {x j pos} : PE X (.Constant (.str x) j pos) (tC (.str x)) := fun _ _ _ H _ I h => Calls.Constant_str ⟨.str x, H, I.tok _, ⟨_, rfl⟩, h⟩
def Gl (X : Cx) (x : Str) : Prop := X.env.kindOf x = some .globalImplicit
theorem ld_glob {E : Value → Shared → Prop} {pins : List (Addr × Obj)} {s : Shared} {σ : St} {H : Hp} {x : Str} {u : Value} {pos : Pos} {Q : Value → Shared → Prop} (I : Inv X pins σ H s) (hg : Gl X x) (hm : X.mg x = some u) (h : Q u s)
    (hd : (x == ("__debug__" : Str)) = false := by decide) : wpAny (model X.prog X.w) X.A (eval (.Name x pos) X.env) Q E s :=
  Calls.Name_function_global I.ok.kind hg (Calls.loadGlobal_global (by rw [I.ok.glob]; exact I.mod.glob.keeps I.bk) hm h) hd
theorem ld_blt {E : Value → Shared → Prop} {pins : List (Addr × Obj)} {s : Shared} {σ : St} {H : Hp} {x : Str} {u : Value} {pos : Pos} {Q : Value → Shared → Prop} (I : Inv X pins σ H s) (hg : Gl X x) (hm : X.mg x = none) (hv : bootBuiltins x = some u) (h : Q u s)
    (hn : x ≠ "__name__" := by decide) (hd : (x == ("__debug__" : Str)) = false := by decide) : wpAny (model X.prog X.w) X.A (eval (.Name x pos) X.env) Q E s := by
  obtain ⟨mb, h1, h2⟩ := I.mod.blt
  exact Calls.Name_function_global I.ok.kind hg (Calls.loadGlobal_builtin (by rw [I.ok.glob]; exact I.mod.glob.keeps I.bk) hm (by rw [I.ok.blt]; exact h1.keeps I.bk) ((h2 x hn).trans hv) h) hd
theorem pe_glob {x : Str} {v : V} {u : Value} {pos : Pos} (hg : Gl X x) (hm : X.mg x = some u) (r : RelV v u) (hd : (x == ("__debug__" : Str)) = false := by decide) : PE X (.Name x pos) (tC v) :=
  fun _ _ _ H _ I h => ld_glob I hg hm ⟨v, H, I, r, h⟩ hd
theorem pe_bltn {x : Str} {v : V} {u : Value} {pos : Pos} (hg : Gl X x) (hm : X.mg x = none) (hv : bootBuiltins x = some u) (r : RelV v u) (hn : x ≠ "__name__" := by decide) (hd : (x == ("__debug__" : Str)) = false := by decide) : PE X (.Name x pos) (tC v) :=
  fun _ _ _ H _ I h => ld_blt I hg hm hv ⟨v, H, I, r, h⟩ hn hd
variable {a b : Expr} {ta tb : TE} {pos : Pos}
def PC (X : Cx) (op : CmpOp) (a b : Expr) (t : TE) : Prop :=
  ∀ (pins : List (Addr × Obj)) (s : Shared) (σ : St) (H : Hp) (Q : VK), Inv X pins σ H s → t σ H Q →
    wpAny (model X.prog X.w) X.A (eval a X.env) (fun v s₁ => wpAny (model X.prog X.w) X.A (eval b X.env) (fun u s₂ => wpAny (model X.prog X.w) X.A (compareOp op v u) (EP X pins σ Q) X.xe s₂) X.xe s₁) X.xe s
theorem nobehind (b : Expr) {op : CmpOp} (h : op ≠ .In) (h2 : op ≠ .NotIn) : behindInMarks op b = false := by
  have e1 : (op == CmpOp.In) = false := by cases op <;> first | rfl | exact absurd rfl h
  have e2 : (op == CmpOp.NotIn) = false := by cases op <;> first | rfl | exact absurd rfl h2
  cases b <;> simp [behindInMarks, e1, e2]
def tIsN (ta : TE) : TE := fun σ H Q => ta σ H fun x H1 => Q (.bl (decide (x = .non))) H1
def tNotN (ta : TE) : TE := fun σ H Q => ta σ H fun x H1 => Q (.bl (!decide (x = .non))) H1
theorem RelV.none_iff {x : V} {v : Value} (r : RelV x v) : (v == Value.none) = decide (x = .non) := by
  cases x with
  | non => cases r; rfl
  | bl _ => cases r; rfl
  | int _ => obtain ⟨t, rfl⟩ := r; rfl
  | str _ => obtain ⟨t, rfl⟩ := r; rfl
  | byt _ => obtain ⟨t, rfl⟩ := r; rfl
  | flt _ => obtain ⟨t, rfl⟩ := r; rfl
  | ref _ => cases r; rfl
  | ty _ => cases r; rfl
theorem pc_isN {j pos'} (ha : PE X a ta) : PC X .Is a (.Constant .none j pos') (tIsN ta) := by
  intro pins s σ H Q I h
  refine thn (ha pins s σ H _ I h) fun v s1 ⟨x, H1, I1, r1, q1⟩ => ?_
  exact Constant_none (is_none_gen ⟨.bl _, H1, I1, by rw [r1.none_iff]; rfl, q1⟩)
theorem pc_notN {j pos'} (ha : PE X a ta) : PC X .IsNot a (.Constant .none j pos') (tNotN ta) := by
  intro pins s σ H Q I h
  refine thn (ha pins s σ H _ I h) fun v s1 ⟨x, H1, I1, r1, q1⟩ => ?_
  exact Constant_none (isnot_none_gen ⟨.bl _, H1, I1, by rw [r1.none_iff]; rfl, q1⟩)
def tB (t : TE) : TT := fun σ H Q => t σ H fun x H1 => ∃ c, x = .bl c ∧ Q c H1
theorem pe_cmp {op : CmpOp} {t : TE} (h : PC X op a b t) (h1 : behindInMarks op b = false := by first | exact nobehind _ (by decide) (by decide) | rfl) : PE X (.Compare a [op] [b] pos) t := fun pins s σ H Q I hw => wpAny_Compare1 (h pins s σ H Q I hw) h1
theorem pt_cmp {op : CmpOp} {t : TE} (h : PC X op a b t) (h1 : behindInMarks op b = false := by first | exact nobehind _ (by decide) (by decide) | rfl) : PT X (.Compare a [op] [b] pos) (tB t) := by
  intro pins s σ H Q I hw
  refine wpAny_isTrue_Compare1 (thn (h pins s σ H _ I hw) fun v s1 h1 => thn h1 fun u s2 h2 => thn h2 fun c s3 ⟨x, H1, I1, r1, q1⟩ => ?_) h1
  obtain ⟨d, rfl, q⟩ := q1
  cases r1
  exact wpAny_truthy_bool ⟨H1, I1, q⟩
variable {tA tB' : TT} {rest : List Expr}
def tAnd (t u : TT) : TT := fun σ H Q => t σ H fun c H1 => if c = true then u σ H1 Q else Q false H1
def tOr (t u : TT) : TT := fun σ H Q => t σ H fun c H1 => if c = true then Q true H1 else u σ H1 Q
def tNot (t : TT) : TT := fun σ H Q => t σ H fun c H1 => Q (!c) H1
theorem pw_and1 (ha : PT X a tA) : PW X (.BoolOp .And [a] pos) tA := by
  intro wh pins s σ H Q I h
  refine isTrue_and (thn (ha pins s σ H Q I h) fun c s1 e => ?_)
  cases c with
  | true => exact isTrue_and_nil e
  | false => exact e
theorem pw_or1 (ha : PT X a tA) : PW X (.BoolOp .Or [a] pos) tA := by
  intro wh pins s σ H Q I h
  refine isTrue_or (thn (ha pins s σ H Q I h) fun c s1 e => ?_)
  cases c with
  | false => exact isTrue_or_nil e
  | true => exact e
theorem pw_and (ha : PT X a tA) (hb : PW X (.BoolOp .And (b :: rest) pos) tB') : PW X (.BoolOp .And (a :: b :: rest) pos) (tAnd tA tB') := by
  intro wh pins s σ H Q I h
  refine isTrue_and (thn (ha pins s σ H _ I h) fun c s1 ⟨H1, I1, q1⟩ => ?_)
  cases c with
  | true => exact hb wh pins s1 σ H1 Q I1 q1
  | false => exact ⟨H1, I1, q1⟩
theorem pw_or (ha : PT X a tA) (hb : PW X (.BoolOp .Or (b :: rest) pos) tB') : PW X (.BoolOp .Or (a :: b :: rest) pos) (tOr tA tB') := by
  intro wh pins s σ H Q I h
  refine isTrue_or (thn (ha pins s σ H _ I h) fun c s1 ⟨H1, I1, q1⟩ => ?_)
  cases c with
  | true => exact ⟨H1, I1, q1⟩
  | false => exact hb wh pins s1 σ H1 Q I1 q1
theorem pt_not (ha : PT X a tA) : PT X (.UnaryOp .Not a pos) (tNot tA) := by
  intro pins s σ H Q I h
  exact isTrue_not (ha pins s σ H (fun c H1 => Q (!c) H1) I h)
def tAndV (ta tb : TE) : TE := fun σ H Q => ta σ H fun x H1 => ∃ c, x = .bl c ∧ if c = true then tb σ H1 Q else Q (.bl false) H1
def tOrV (ta tb : TE) : TE := fun σ H Q => ta σ H fun x H1 => ∃ c, x = .bl c ∧ if c = true then Q (.bl true) H1 else tb σ H1 Q
def tNotV (ta : TE) : TE := fun σ H Q => ta σ H fun x H1 => ∃ c, x = .bl c ∧ Q (.bl (!c)) H1
theorem pe_one {op} {t : TE} (h : PE X a t) : PE X (.BoolOp op [a] pos) t := fun pins s σ H Q I hw => BoolOp_one (h pins s σ H Q I hw)
theorem pe_and (ha : PE X a ta) (hb : PE X (.BoolOp .And (b :: rest) pos) tb) : PE X (.BoolOp .And (a :: b :: rest) pos) (tAndV ta tb) := by
  intro pins s σ H Q I h
  refine BoolOp_and (thn (ha pins s σ H _ I h) fun v s1 ⟨x, H1, I1, r1, q1⟩ => ?_)
  obtain ⟨c, rfl, q1⟩ := q1
  cases r1
  refine wpAny_truthy_bool ?_
  cases c with
  | true => exact hb pins s1 σ H1 Q I1 q1
  | false => exact ⟨.bl false, H1, I1, rfl, q1⟩
theorem pe_or (ha : PE X a ta) (hb : PE X (.BoolOp .Or (b :: rest) pos) tb) : PE X (.BoolOp .Or (a :: b :: rest) pos) (tOrV ta tb) := by
  intro pins s σ H Q I h
  refine BoolOp_or (thn (ha pins s σ H _ I h) fun v s1 ⟨x, H1, I1, r1, q1⟩ => ?_)
  obtain ⟨c, rfl, q1⟩ := q1
  cases r1
  refine wpAny_truthy_bool ?_
  cases c with
  | false => exact hb pins s1 σ H1 Q I1 q1
  | true => exact ⟨.bl true, H1, I1, rfl, q1⟩
theorem pe_not (ha : PE X a ta) : PE X (.UnaryOp .Not a pos) (tNotV ta) := by
  intro pins s σ H Q I h
  refine UnaryOp_ (thn (ha pins s σ H _ I h) fun v s1 ⟨x, H1, I1, r1, q1⟩ => ?_)
  obtain ⟨c, rfl, q1⟩ := q1
  cases r1
  exact not_of (wpAny_truthy_bool ⟨.bl (!c), H1, I1, rfl, q1⟩)
end
end L2
namespace L2
open PySem PySem.Spec PyProof.Rows
def SqL (K : PySem.W.Frag) (H : Hp) (a : Addr) (xs : List V) : Prop :=
  Rd H a (.lst xs) ∨
    ∃ (o : Obj) (its : Array Value) (n : Nat), K.lookup a = some o ∧ o.cls = .type "list" ∧ o.dict = none ∧ o.data = .seq its n ∧ its.size ≤ sizeLine ∧ Vals xs its.toList
def SqT (K : PySem.W.Frag) (H : Hp) (a : Addr) (xs : List V) : Prop :=
  Rd H a (.tup xs) ∨
    ∃ (o : Obj) (its : Array Value) (n : Nat), K.lookup a = some o ∧ o.cls = .type "tuple" ∧ o.data = .seq its n ∧ its.size ≤ sizeLine ∧ Vals xs its.toList
def absV : Value → Option V
  | .none => some .non
  | .bool b => some (.bl b)
  | .int i _ => some (.int i)
  | .str x _ => some (.str x)
  | .bytes b _ => some (.byt b)
  | .float b _ => some (.flt b)
  | .ref a => some (.ref a)
  | .type n => some (.ty n)
  | _ => none
theorem RelV.abs {x : V} {u : Value} (r : RelV x u) : absV u = some x := by
  cases x with
  | non => cases r; rfl
  | bl _ => cases r; rfl
  | int _ => obtain ⟨t, rfl⟩ := r; rfl
  | str _ => obtain ⟨t, rfl⟩ := r; rfl
  | byt _ => obtain ⟨t, rfl⟩ := r; rfl
  | flt _ => obtain ⟨t, rfl⟩ := r; rfl
  | ref _ => cases r; rfl
  | ty _ => cases r; rfl
theorem RelV.inj {x y : V} {u : Value} (r : RelV x u) (q : RelV y u) : x = y := Option.some.inj (r.abs.symm.trans q.abs)
theorem Vals.inj : ∀ {xs ys : List V} {us : List Value}, Vals xs us → Vals ys us → xs = ys
  | _, _, _, .nil, .nil => rfl
  | _, _, _, .cons r t, .cons r' t' => by rw [r.inj r', Vals.inj t t']
section
variable {X : Cx} {pins : List (Addr × Obj)} {σ : St} {H : Hp} {s : Shared} {a : Addr} {xs ys : List V}
theorem SqL.of {K : PySem.W.Frag} (h : H a = some (.lst xs)) : SqL K H a xs := .inl (.inl h)
theorem SqT.of {K : PySem.W.Frag} (h : H a = some (.tup xs)) : SqT K H a xs := .inl (.inl h)
theorem Inv.list (I : Inv X pins σ H s) (h : SqL X.K H a xs) : ∃ its : List Value, Vals xs its ∧ PlainL s.heap a its.toArray ∧ xs.length ≤ sizeLine := by
  rcases h with h | ⟨o, its, n, hk, hc, hd, hs, hz, r⟩
  · obtain ⟨z, its, n, r, e⟩ := h.ok I.hok
    exact ⟨its, r, ⟨_, n, e, rfl, rfl, rfl⟩, z⟩
  · refine ⟨its.toList, r, ⟨o, n, I.kIn a o hk, hc, hd, by simpa using hs⟩, ?_⟩
    have e := r.length
    simp only [Array.length_toList] at e
    omega
theorem Inv.tuple (I : Inv X pins σ H s) (h : SqT X.K H a xs) : ∃ its : List Value, Vals xs its ∧ IsTup s.heap a its.toArray ∧ xs.length ≤ sizeLine := by
  rcases h with h | ⟨o, its, n, hk, hc, hs, hz, r⟩
  · obtain ⟨z, its, r, p⟩ := h.ok I.hok
    exact ⟨its, r, p, z⟩
  · refine ⟨its.toList, r, ⟨o, I.kIn a o hk, hc, n, by simpa using hs⟩, ?_⟩
    have e := r.length
    simp only [Array.length_toList] at e
    omega
theorem Inv.list_inj (I : Inv X pins σ H s) (h : SqL X.K H a xs) (h' : SqL X.K H a ys) : xs = ys := by
  obtain ⟨its, r, ⟨o, n, e, _, _, d⟩, _⟩ := I.list h
  obtain ⟨its', r', ⟨o', n', e', _, _, d'⟩, _⟩ := I.list h'
  rw [e] at e'; cases e'
  rw [d] at d'
  injection d' with d1 _
  have : its = its' := by simpa using congrArg Array.toList d1
  subst this
  exact r.inj r'
theorem Inv.tuple_inj (I : Inv X pins σ H s) (h : SqT X.K H a xs) (h' : SqT X.K H a ys) : xs = ys := by
  obtain ⟨its, r, ⟨o, e, _, n, d⟩, _⟩ := I.tuple h
  obtain ⟨its', r', ⟨o', e', _, n', d'⟩, _⟩ := I.tuple h'
  rw [e] at e'; cases e'
  rw [d] at d'
  injection d' with d1 _
  have : its = its' := by simpa using congrArg Array.toList d1
  subst this
  exact r.inj r'
end
abbrev Cx.wish (X : Cx) (E : Value → Shared → Prop) : Cx := { X with xe := E }
abbrev Cx.nox (X : Cx) : Cx := X.wish fun _ _ => False
theorem Cx.Ok.wish {X : Cx} (ok : X.Ok) (E : Value → Shared → Prop) : (X.wish E).Ok :=
  ⟨ok.mod, ok.kind, ok.glob, ok.blt, ok.above, ok.inj, ok.has, ok.cab, ok.hd, ok.frames, ok.stk, ok.exf, ok.bs, ok.bsz, ok.noex, ok.exfs, ok.funs, ok.frf⟩
theorem Cx.Ok.unwish {X : Cx} {E : Value → Shared → Prop} (ok : (X.wish E).Ok) : X.Ok :=
  ⟨ok.mod, ok.kind, ok.glob, ok.blt, ok.above, ok.inj, ok.has, ok.cab, ok.hd, ok.frames, ok.stk, ok.exf, ok.bs, ok.bsz, ok.noex, ok.exfs, ok.funs, ok.frf⟩
section
variable {X : Cx} {pins : List (Addr × Obj)} {σ : St} {H : Hp} {s : Shared} {E : Value → Shared → Prop}
theorem Inv.wish (I : Inv X pins σ H s) (E : Value → Shared → Prop) : Inv (X.wish E) pins σ H s := ⟨I.ok.wish E, I.os, I.bare, I.base, I.loc, I.cell, I.free, I.freeC, I.pin, I.hok, I.len⟩
theorem Inv.unwish (I : Inv (X.wish E) pins σ H s) : Inv X pins σ H s := ⟨I.ok.unwish, I.os, I.bare, I.base, I.loc, I.cell, I.free, I.freeC, I.pin, I.hok, I.len⟩
theorem SP.unwish {D : Ends} {f : Flow} {s' : Shared} (h : SP (X.wish E) pins D f s') : SP X pins D f s' := by
  cases f with
  | next => obtain ⟨σ', H', I, q⟩ := h; exact ⟨σ', H', I.unwish, q⟩
  | brk => obtain ⟨σ', H', I, q⟩ := h; exact ⟨σ', H', I.unwish, q⟩
  | cont => obtain ⟨σ', H', I, q⟩ := h; exact ⟨σ', H', I.unwish, q⟩
  | ret u => obtain ⟨v, σ', H', I, r, q⟩ := h; exact ⟨v, σ', H', I.unwish, r, q⟩
theorem PE.nox {e : Expr} {t : TE} (h : PE X.nox e t) : PE X e t := fun pins s σ H Q I hw =>
  wpAny_mono (h pins s σ H Q (I.wish _) hw) (fun _ _ ⟨v, H', I', r, q⟩ => ⟨v, H', I'.unwish, r, q⟩) fun _ _ z => False.elim z
theorem PT.nox {e : Expr} {t : TT} (h : PT X.nox e t) : PT X e t := fun pins s σ H Q I hw =>
  wpAny_mono (h pins s σ H Q (I.wish _) hw) (fun _ _ ⟨H', I', q⟩ => ⟨H', I'.unwish, q⟩) fun _ _ z => False.elim z
theorem PSs.nox {st : List Stmt} {t : TS} (h : PSs X.nox st t) : PSs X st t := fun pins s σ H D I hw =>
  wpAny_mono (h pins s σ H D (I.wish _) hw) (fun _ _ q => q.unwish) fun _ _ z => False.elim z
end
section
variable {X : Cx} {st : Stmt} {rest : List Stmt} {t u : TS} {e : Expr} {te : TE} {pos : Pos}
def tNext : TS := fun D σ H => D.nx σ H
def tSeq (t u : TS) : TS := fun D σ H => t { D with nx := u D } σ H
theorem pss_nil : PSs X [] tNext := fun _ _ σ H _ I h => wpAny_execs_nil ⟨σ, H, I, h⟩
theorem pss_cons (h1 : PS X st t) (h2 : PSs X rest u) : PSs X (st :: rest) (tSeq t u) := by
  intro pins s σ H D I h
  refine wpAny_execs_cons (thn (h1 pins s σ H { D with nx := u D } I h) fun f s1 q => ?_)
  cases f with
  | next =>
    obtain ⟨σ', H', I', q⟩ := q
    exact h2 pins s1 σ' H' D I' q
  | ret v => exact q
  | brk => exact q
  | cont => exact q
theorem Inv.quiet {pins : List (Addr × Obj)} {σ : St} {H : Hp} {s : Shared} (I : Inv X pins σ H s) : interactive X.env = false := by simp [interactive, I.ok.kind]
def tDrop (te : TE) : TS := fun D σ H => te σ H fun _ H1 => D.nx σ H1
theorem ps_expr (he : PE X e te) (hs : swapsWith e none pos.line X.env = pure false := by rfl) : PS X (.Expr e pos) (tDrop te) := by
  intro pins s σ H D I h
  exact wpAny_Expr_any (thn (he pins s σ H _ I h) fun v s1 ⟨x, H1, I1, r1, q1⟩ => ⟨σ, H1, I1, q1⟩) I.quiet hs
def tRet (te : TE) : TS := fun D σ H => te σ H D.rt
theorem ps_ret (he : PE X e te) : PS X (.Return (some e) pos) (tRet te) := by
  intro pins s σ H D I h
  exact wpAny_Return_some (thn (he pins s σ H _ I h) fun v s1 ⟨x, H1, I1, r1, q1⟩ => ⟨x, σ, H1, I1, r1, q1⟩)
def tIfS (c : TT) (t u : TS) : TS := fun D σ H => c σ H fun b H1 => if b = true then t D σ H1 else u D σ H1
theorem ps_if {c : Expr} {a b : List Stmt} {tc : TT} (hc : PT X c tc) (ha : PSs X a t) (hb : PSs X b u) : PS X (.If c a b pos) (tIfS tc t u) := by
  intro pins s σ H D I h
  refine wpAny_If (thn (hc pins s σ H _ I h) fun d s1 ⟨H1, I1, q1⟩ => ?_)
  cases d with
  | true => exact ha pins s1 σ H1 D I1 q1
  | false => exact hb pins s1 σ H1 D I1 q1
end
abbrev TG := V → St → Hp → (St → Hp → Prop) → Prop
abbrev TGs := List V → St → Hp → (St → Hp → Prop) → Prop
def PG (X : Cx) (target : Expr) (t : TG) : Prop :=
  ∀ (pins : List (Addr × Obj)) (s : Shared) (σ : St) (H : Hp) (v : V) (u : Value) (Q : St → Hp → Prop), Inv X pins σ H s → RelV v u → t v σ H Q →
    wpAny (model X.prog X.w) X.A (assign target X.env u) (fun _ s' => ∃ σ' H', Inv X pins σ' H' s' ∧ Q σ' H') X.xe s
def PGs (X : Cx) (ts : List Expr) (t : TGs) : Prop :=
  ∀ (pins : List (Addr × Obj)) (s : Shared) (σ : St) (H : Hp) (vs : List V) (us : List Value) (Q : St → Hp → Prop), Inv X pins σ H s → Vals vs us → t vs σ H Q →
    wpAny (model X.prog X.w) X.A (assignInOrder ((assignEach ts X.env).map (·.2)) us) (fun _ s' => ∃ σ' H', Inv X pins σ' H' s' ∧ Q σ' H') X.xe s
abbrev TSet := V → V → V → Hp → (Hp → Prop) → Prop
def PSet (X : Cx) (t : TSet) : Prop :=
  ∀ (pins : List (Addr × Obj)) (s : Shared) (σ : St) (H : Hp) (o i v : V) (ov iv u : Value) (Q : Hp → Prop), Inv X pins σ H s → RelV o ov → RelV i iv → RelV v u → t o i v H Q →
    wpAny (model X.prog X.w) X.A (setItem ov iv u) (fun _ s' => ∃ H', Inv X pins σ H' s' ∧ Q H') X.xe s
section
variable {X : Cx} {pos : Pos}
def gName (i : Nat) : TG := fun v σ H Q => Q (σ.set i (some v)) H
theorem pg_name {i : Nat} {x : Str} (hN : X.N.Nodup) (hi : X.N[i]? = some x) (hx : Loc X.env.scope x) (hf : X.fn x = true ∨ X.env.scope.names.lookup x = some .local := by first | exact .inl rfl | exact .inr rfl | assumption) : PG X (.Name x pos) (gName i) := by
  intro pins s σ H v u Q I r h
  exact wpAny_assign_Name (store_ok I hN hi hx r (fun s' I' => ⟨_, H, I', h⟩) hf)
def gNil : TGs := fun vs σ H Q => vs = [] ∧ Q σ H
def gCons (t : TG) (u : TGs) : TGs := fun vs σ H Q => ∃ v r, vs = v :: r ∧ t v σ H fun σ' H' => u r σ' H' Q
theorem pgs_nil : PGs X [] gNil := by
  intro pins s σ H vs us Q I r h
  obtain ⟨e, h⟩ := h
  subst e
  cases r
  exact assignInOrder_nil ⟨σ, H, I, h⟩
theorem pgs_cons {e : Expr} {es : List Expr} {t : TG} {u : TGs} (h1 : PG X e t) (h2 : PGs X es u)
    (hs : (assignEach (e :: es) X.env).map (·.2) = assign e X.env :: (assignEach es X.env).map (·.2) := by rfl) : PGs X (e :: es) (gCons t u) := by
  intro pins s σ H vs us Q I r h
  obtain ⟨v, vr, e1, h⟩ := h
  subst e1
  cases r with
  | cons r rr =>
    rw [hs]
    refine assignInOrder_cons (thn (h1 pins s σ H _ _ _ I r h) fun _ s1 ⟨σ1, H1, I1, q1⟩ => ?_)
    exact h2 pins s1 σ1 H1 _ _ Q I1 rr q1
def gTup (K : PySem.W.Frag) (n : Nat) (t : TGs) : TG := fun v σ H Q => ∃ a xs, v = .ref a ∧ SqT K H a xs ∧ xs.length = n ∧ t xs σ H Q
theorem pg_tup {es : List Expr} {k : Nat} {t : TGs} {n : Nat} (hc : X.calm = true) (h : PGs X es t)
    (hn : (assignEach es X.env).length = n := by rfl) (hst : (assignEach es X.env).findIdx? (·.1) = none := by rfl) : PG X (.Tuple es k pos) (gTup X.K n t) := by
  intro pins s σ H v u Q I r hw
  obtain ⟨a, xs, e1, hq, hl, hw⟩ := hw
  subst e1
  cases r
  obtain ⟨its, rv, ht, hz⟩ := I.tuple hq
  refine assign_Tuple_tuple (I.ok.hd hc) ht (by simp [hn, ← hl, rv.length]) hst fun h' hx => ?_
  have I1 : Inv X pins σ H { s with heap := h' } := I.kept (t' := s.toks) fun b o e => hx b o (Nat.ne_of_lt (Heap.lt_size e)) e
  exact h pins _ σ H xs _ Q I1 (by simpa using rv) hw
def gSub (to ti : TE) (t : TSet) : TG := fun v σ H Q => to σ H fun o H1 => ti σ H1 fun i H2 => t o i v H2 fun H3 => Q σ H3
theorem pg_sub {o i : Expr} {to ti : TE} {t : TSet} (ho : PE X o to) (hi : PE X i ti) (hs : PSet X t)
    (ha : ∀ v, assign (.Subscript o i pos) X.env v = (do
      let ov ← holding [v] (eval o X.env)
      let iv ← holding [v, ov] (eval i X.env)
      standAt pos
      holding [v, ov, iv] (setItem ov iv v)
      release [v, ov, iv] []) := by intro _; rfl) : PG X (.Subscript o i pos) (gSub to ti t) := by
  intro pins s σ H v u Q I r h
  rw [ha]
  refine wpAny_bind (wpAny_holding (thn (ho pins s σ H _ I h) fun ov s1 ⟨x, H1, I1, r1, q1⟩ => ?_))
  refine wpAny_bind (wpAny_holding (thn (hi pins s1 σ H1 _ I1 q1) fun iv s2 ⟨y, H2, I2, r2, q2⟩ => ?_))
  refine wpAny_bind (wpAny_standAt (wpAny_bind (wpAny_holding (thn (hs pins s2 σ H2 x y v ov iv u _ I2 r1 r2 r q2) fun _ s3 ⟨H3, I3, q3⟩ => ?_))))
  exact wpAny_release ⟨σ, H3, I3, q3⟩
def tAsg (te : TE) (g : TG) : TS := fun D σ H => te σ H fun x H1 => g x σ H1 D.nx
theorem ps_asg {tg e : Expr} {te : TE} {g : TG} (he : PE X e te) (hg : PG X tg g) (hs : swapsWithSole [tg] e pos.line X.env = pure false := by rfl) (hw : swappedStores [tg] e X.env = pure none := by rfl)
    (h1 : (assignEach [tg] X.env).map (·.2) = [assign tg X.env] := by rfl) : PS X (.Assign [tg] e pos) (tAsg te g) := by
  intro pins s σ H D I h
  refine wpAny_Assign_stores (thn (he pins s σ H _ I h) fun v s1 ⟨x, H1, I1, r1, q1⟩ => ?_) hs hw
  rw [h1]
  exact thn (hg pins s1 σ H1 x v _ I1 r1 q1) fun _ s2 q => q
theorem ps_set {i : Nat} {x : Str} {e : Expr} {te : TE} {pos' : Pos} (hN : X.N.Nodup) (hi : X.N[i]? = some x) (hx : Loc X.env.scope x) (he : PE X e te) (hs : swapsWith e (some (.Name x pos')) pos.line X.env = pure false := by rfl) (hf : X.fn x = true ∨ X.env.scope.names.lookup x = some .local := by first | exact .inl rfl | exact .inr rfl | assumption) :
    PS X (.Assign [.Name x pos'] e pos) (tAsg te (gName i)) := by
  intro pins s σ H D I h
  refine wpAny_Assign_Name (thn (he pins s σ H _ I h) fun v s1 ⟨y, H1, I1, r1, q1⟩ => ?_) hs
  exact store_ok I1 hN hi hx r1 (fun s2 I2 => ⟨_, H1, I2, q1⟩) hf
end
section
variable {X : Cx} {pos : Pos}
end
structure It where
  go : Nat → Hp → Prop
  yld : Nat → Hp → V → Hp → Prop
  stop : Nat → Hp → Prop
def FpOk (X : Cx) (pins : List (Addr × Obj)) (H : Hp) (b : Addr) : Prop :=
  H b = none ∧ b ≠ X.env.locals ∧ b ∉ X.fs ∧ (b ∈ X.ex ∨ X.s₀.heap.objs.size ≤ b) ∧ (∀ x c, X.env.cells.lookup x = some c → c ≠ b) ∧ ∀ p ∈ X.pn ++ pins, p.1 ≠ b
theorem Inv.fpOk {X : Cx} {pins : List (Addr × Obj)} {σ : St} {H H' : Hp} {s : Shared} {b : Addr} (I : Inv X pins σ H s) (hb : s.heap.objs.size ≤ b) (hn : H' b = none) : FpOk X pins H' b := by
  refine ⟨hn, Nat.ne_of_gt (Nat.lt_of_lt_of_le I.lt hb), I.nofs hb, .inr (Nat.le_trans I.sz hb), fun x c e z => ?_, fun p hp z => ?_⟩
  · obtain ⟨v, q⟩ := I.cell x c e
    exact absurd (Nat.lt_of_lt_of_le q.lt (by rw [z]; exact hb)) (Nat.lt_irrefl _)
  · exact absurd (Nat.lt_of_lt_of_le (Heap.lt_size (I.pin p hp).1) (by rw [z]; exact hb)) (Nat.lt_irrefl _)
structure Turn (P : Program) (w : World) (K : PySem.W.Frag) (tg : Expr) (J : It) (fp : List Addr) (it : Addr) (tn : Nat → Heap → Prop) : Prop where
  mem : it ∈ fp
  obj : ∀ i h, tn i h → ∀ b ∈ fp, ∃ o, h.get? b = some o ∧ ∀ v, o.data ≠ .cell v
  keep : ∀ i h h', tn i h → (∀ b ∈ fp, ∀ o, h.get? b = some o → h'.get? b = some o) → tn i h'
  item : ∀ (X : Cx), X.prog = P → X.w = w → X.K = K → X.calm = true → ∀ (i : Nat) (pins : List (Addr × Obj)) (s : Shared) (σ : St) (H : Hp) (E : Value → Shared → Prop), Inv X pins σ H s → (∀ b ∈ fp, FpOk X pins H b) → tn i s.heap → J.go i H →
    wpAny (model P w) X.A (pyNext (.ref it)) (fun r s1 => ∃ u, r = some u ∧
      wpAny (model P w) X.A (letOwnedTupleGo tg (.ref it) u) (fun _ s2 => ∃ x H', Inv X pins σ H' s2 ∧ RelV x u ∧ J.yld i H x H' ∧ tn (i + 1) s2.heap ∧ ∀ b ∈ fp, H' b = none) E s1) E s
  done : ∀ (X : Cx), X.prog = P → X.w = w → X.K = K → X.calm = true → ∀ (i : Nat) (pins : List (Addr × Obj)) (s : Shared) (σ : St) (H : Hp) (E : Value → Shared → Prop), Inv X pins σ H s → (∀ b ∈ fp, FpOk X pins H b) → tn i s.heap → J.stop i H →
    wpAny (model P w) X.A (pyNext (.ref it)) (fun r s1 => r = none ∧ Inv X pins σ H s1) E s
  self : ∀ (A : Around) (i : Nat) (s : Shared) (Q : Value → Shared → Prop) (E : Value → Shared → Prop), tn i s.heap → Q (.ref it) s → wpAny (model P w) A (pyIter (.ref it)) Q E s
abbrev TI := St → Hp → (It → Hp → Prop) → Prop
def PIE (X : Cx) (pins : List (Addr × Obj)) (σ : St) (tg : Expr) (R : It → Hp → Prop) (itv : Value) (s2 : Shared) : Prop :=
  ∃ (it : Addr) (fp : List Addr) (tn : Nat → Heap → Prop) (J : It) (H' : Hp), itv = .ref it ∧ Inv X pins σ H' s2 ∧ Turn X.prog X.w X.K tg J fp it tn ∧ tn 0 s2.heap ∧ (∀ b ∈ fp, FpOk X pins H' b) ∧ R J H'
def PI (X : Cx) (tg iter : Expr) (wi : TI) : Prop :=
  ∀ (pins : List (Addr × Obj)) (s : Shared) (σ : St) (H : Hp) (R : It → Hp → Prop), Inv X pins σ H s → wi σ H R →
    wpAny (model X.prog X.w) X.A (eval iter X.env) (fun v s1 => wpAny (model X.prog X.w) X.A (pyIter v) (PIE X pins σ tg R) X.xe s1) X.xe s
theorem go_of {M : Model} {A : Around} {E : Value → Shared → Prop} {s : Shared} {tg : Expr} {it : Addr} {u : Value} {o : Obj} {n : String} {vs : Array Value} {Q : Unit → Shared → Prop} (ho : s.heap.get? it = some o) (hc : o.cls = .type n) (hd : o.data = .fields vs)
    (hn : ["enumerate", "zip", "dict_itemiterator", "dict_reverseitemiterator", "odict_iterator", "itertools.zip_longest", "itertools.pairwise"].contains n = false) (hQ : Q () s) : wpAny M A (letOwnedTupleGo tg (.ref it) u) Q E s := by
  unfold letOwnedTupleGo
  cases tg <;> first
    | exact wpAny_pure hQ
    | (cases u <;> first
        | exact wpAny_pure hQ
        | (refine wpAny_bind (wpAny_load ho ?_)
           rw [hc, hd]
           show wpAny M A (if (["enumerate", "zip", "dict_itemiterator", "dict_reverseitemiterator", "odict_iterator", "itertools.zip_longest", "itertools.pairwise"].contains n && vs[0]? == some (rawInt _)) = true then _ else _) Q E s
           rw [if_neg (by intro h; rw [hn, Bool.false_and] at h; cases h)]
           exact wpAny_pure hQ))
def Itl (K : PySem.W.Frag) (a : Addr) : It :=
  ⟨fun i H => ∃ xs x, SqL K H a xs ∧ xs[i]? = some x, fun i H x H' => H' = H ∧ ∀ xs, SqL K H a xs → xs[i]? = some x, fun i H => ∃ xs, SqL K H a xs ∧ xs.length ≤ i⟩
def Itt (K : PySem.W.Frag) (a : Addr) : It :=
  ⟨fun i H => ∃ xs x, SqT K H a xs ∧ xs[i]? = some x, fun i H x H' => H' = H ∧ ∀ xs, SqT K H a xs → xs[i]? = some x, fun i H => ∃ xs, SqT K H a xs ∧ xs.length ≤ i⟩
def Itr (lo : Int) (n : Nat) : It := ⟨fun i _ => i < n, fun i H x H' => H' = H ∧ x = .int (lo + i), fun i _ => n ≤ i⟩
theorem turn_list {P : Program} {w : World} {K : PySem.W.Frag} {tg : Expr} (a it : Addr) : Turn P w K tg (Itl K a) [it] it (fun i h => h.IsListIter it a i) where
  mem := by simp
  obj := fun i h st b hb => by
    have e : b = it := by simpa using hb
    subst e
    obtain ⟨o, e, c, d⟩ := st
    exact ⟨o, e, fun v z => by rw [d] at z; cases z⟩
  keep := fun i h h' st k => st.at fun o e => k it (by simp) o e
  item := by
    intro X hP hw hK hc i pins s σ H E I hf st hg
    subst hP hw hK
    obtain ⟨xs, x, hq, hx⟩ := hg
    obtain ⟨its, rv, p, hz⟩ := I.list hq
    obtain ⟨u, hu, ru⟩ := rv.get hx
    obtain ⟨f0, f1, f2, f3, f4, f5⟩ := hf it (by simp)
    refine wpAny_pyNext_list_item st p.isList (x := u) (by simpa using hu) fun h' st' sb => ?_
    have I1 : Inv X pins σ H { s with heap := h' } := I.turned (t' := s.toks) (fun b o hb e => (sb.2 b hb).trans e) f0 f1 f3 f4 f5
    obtain ⟨o, e, c, d⟩ := id st'
    exact ⟨u, rfl, go_of (s := { s with heap := h' }) e c d (by decide) ⟨x, H, I1, ru, ⟨rfl, fun ys hy => by rw [I.list_inj hy hq]; exact hx⟩, st', fun b hb => (hf b hb).1⟩⟩
  done := by
    intro X hP hw hK hc i pins s σ H E I hf st hg
    subst hP hw hK
    obtain ⟨xs, hq, hx⟩ := hg
    obtain ⟨its, rv, p, hz⟩ := I.list hq
    obtain ⟨f0, f1, f2, f3, f4, f5⟩ := hf it (by simp)
    have hl := rv.length
    exact wpAny_pyNext_list_end (I.ok.hd hc) st p.isList (by simp; omega) fun h' eb => ⟨rfl, I.turned (t' := s.toks) (fun b o hb e => eb b o hb e) f0 f1 f3 f4 f5⟩
  self := fun _ _ _ _ _ st h => wpAny_pyIter_listiter st h
theorem turn_tuple {P : Program} {w : World} {K : PySem.W.Frag} {tg : Expr} (a it : Addr) : Turn P w K tg (Itt K a) [it] it (fun i h => h.IsTupleIter it a i) where
  mem := by simp
  obj := fun i h st b hb => by
    have e : b = it := by simpa using hb
    subst e
    obtain ⟨o, e, c, d⟩ := st
    exact ⟨o, e, fun v z => by rw [d] at z; cases z⟩
  keep := fun i h h' st k => st.at fun o e => k it (by simp) o e
  item := by
    intro X hP hw hK hc i pins s σ H E I hf st hg
    subst hP hw hK
    obtain ⟨xs, x, hq, hx⟩ := hg
    obtain ⟨its, rv, p, hz⟩ := I.tuple hq
    obtain ⟨u, hu, ru⟩ := rv.get hx
    obtain ⟨f0, f1, f2, f3, f4, f5⟩ := hf it (by simp)
    refine wpAny_pyNext_tuple_item st (show s.heap.IsTuple a its.toArray from p) (x := u) (by simpa using hu) fun h' st' sb => ?_
    have I1 : Inv X pins σ H { s with heap := h' } := I.turned (t' := s.toks) (fun b o hb e => (sb.2 b hb).trans e) f0 f1 f3 f4 f5
    obtain ⟨o, e, c, d⟩ := id st'
    exact ⟨u, rfl, go_of (s := { s with heap := h' }) e c d (by decide) ⟨x, H, I1, ru, ⟨rfl, fun ys hy => by rw [I.tuple_inj hy hq]; exact hx⟩, st', fun b hb => (hf b hb).1⟩⟩
  done := by
    intro X hP hw hK hc i pins s σ H E I hf st hg
    subst hP hw hK
    obtain ⟨xs, hq, hx⟩ := hg
    obtain ⟨its, rv, p, hz⟩ := I.tuple hq
    obtain ⟨f0, f1, f2, f3, f4, f5⟩ := hf it (by simp)
    have hl := rv.length
    exact wpAny_pyNext_tuple_end (I.ok.hd hc) st (show s.heap.IsTuple a its.toArray from p) (by simp; omega) fun h' eb => ⟨rfl, I.turned (t' := s.toks) (fun b o hb e => eb b o hb e) f0 f1 f3 f4 f5⟩
  self := fun _ _ _ _ _ st h => wpAny_pyIter_tupleiter st h
theorem turn_range {P : Program} {w : World} {K : PySem.W.Frag} {tg : Expr} (it : Addr) (lo : Int) (n : Nat) : Turn P w K tg (Itr lo n) [it] it (fun i h => IsRangeIter h it (lo + (i : Nat) * 1) ((n : Int) - (i : Nat)) 1) where
  mem := by simp
  obj := fun i h st b hb => by
    have e : b = it := by simpa using hb
    subst e
    exact ⟨_, st, fun v z => by
      have z' : Data.fields _ = Data.cell v := z
      cases z'⟩
  keep := fun i h h' st k => k it (by simp) _ st
  item := by
    intro X hP hw hK hc i pins s σ H E I hf st hg
    subst hP hw hK
    obtain ⟨f0, f1, f2, f3, f4, f5⟩ := hf it (by simp)
    have W := Walks.range (prog := X.prog) (w := X.w) (I.ok.hd hc) it lo 1 n
    refine W.item i s _ _ hg st fun v h' tk hv st' kk => ?_
    obtain ⟨t, rfl⟩ := hv
    have I1 : Inv X pins σ H { s with heap := h', toks := tk } := I.turned (fun b o hb e => kk b o (by simpa using hb) e) f0 f1 f3 f4 f5
    refine ⟨_, rfl, go_of (s := { s with heap := h', toks := tk }) (n := "range_iterator") st' rfl rfl (by decide) ⟨.int (lo + i), H, I1, ⟨t, ?_⟩, ⟨rfl, rfl⟩, st', fun b hb => (hf b hb).1⟩⟩
    rw [Int.mul_one]
  done := by
    intro X hP hw hK hc i pins s σ H E I hf st hg
    subst hP hw hK
    obtain ⟨f0, f1, f2, f3, f4, f5⟩ := hf it (by simp)
    exact wpAny_pyNext_range_end (I.ok.hd hc) st (by have : n ≤ i := hg; omega) fun h' eb => ⟨rfl, I.turned (t' := s.toks) (fun b o hb e => eb b o hb e) f0 f1 f3 f4 f5⟩
  self := fun _ _ _ _ _ st h => wpAny_pyIter_rangeiter st h
end L2
namespace L2
open PySem PySem.Spec PyProof.Rows
section
variable {X : Cx} {tg : Expr}
def iList (K : PySem.W.Frag) (tl : TE) : TI := fun σ H R => tl σ H fun x H1 => ∃ a, x = .ref a ∧ (∃ xs, SqL K H1 a xs) ∧ R (Itl K a) H1
def iTup (K : PySem.W.Frag) (tl : TE) : TI := fun σ H R => tl σ H fun x H1 => ∃ a, x = .ref a ∧ (∃ xs, SqT K H1 a xs) ∧ R (Itt K a) H1
theorem pi_list {l : Expr} {tl : TE} (hl : PE X l tl) : PI X tg l (iList X.K tl) := by
  intro pins s σ H R I h
  refine thn (hl pins s σ H _ I h) fun v s1 ⟨x, H1, I1, r1, q1⟩ => ?_
  obtain ⟨a, e, ⟨xs, hq⟩, q⟩ := q1
  subst e
  cases r1
  obtain ⟨its, rv, p, hz⟩ := I1.list hq
  refine wpAny_pyIter_list p.isList ?_
  refine ⟨s1.heap.objs.size, [s1.heap.objs.size], _, _, H1, rfl, I1.kept (t' := s1.toks) fun b o e => Heap.get?_push_of_some _ e, turn_list a _, ⟨_, Heap.get?_push_size _ rfl, rfl, rfl⟩, fun b hb => ?_, q⟩
  have e : b = s1.heap.objs.size := by simpa using hb
  subst e
  exact I1.fpOk (Nat.le_refl _) (I1.hok.fresh (Nat.le_refl _))
theorem pi_tup {l : Expr} {tl : TE} (hl : PE X l tl) : PI X tg l (iTup X.K tl) := by
  intro pins s σ H R I h
  refine thn (hl pins s σ H _ I h) fun v s1 ⟨x, H1, I1, r1, q1⟩ => ?_
  obtain ⟨a, e, ⟨xs, hq⟩, q⟩ := q1
  subst e
  cases r1
  obtain ⟨its, rv, p, hz⟩ := I1.tuple hq
  refine wpAny_pyIter_tuple (show s1.heap.IsTuple a its.toArray from p) ?_
  refine ⟨s1.heap.objs.size, [s1.heap.objs.size], _, _, H1, rfl, I1.kept (t' := s1.toks) fun b o e => Heap.get?_push_of_some _ e, turn_tuple a _, ⟨_, Heap.get?_push_size _ rfl, rfl, rfl⟩, fun b hb => ?_, q⟩
  have e : b = s1.heap.objs.size := by simpa using hb
  subst e
  exact I1.fpOk (Nat.le_refl _) (I1.hok.fresh (Nat.le_refl _))
theorem range_it {pins : List (Addr × Obj)} {σ : St} {H : Hp} {s : Shared} {R : It → Hp → Prop} {E : Value → Shared → Prop} {lo hi : Int} {t u v : Tok} {tk : Nat} (I : Inv X pins σ H s) (h1 : -(2 ^ 62) ≤ lo) (h2 : lo < 2 ^ 62) (h3 : -(2 ^ 62) ≤ hi) (h4 : hi < 2 ^ 62)
    (q : R (Itr lo (hi - lo).toNat) H) : wpAny (model X.prog X.w) X.A (pyIter (.ref s.heap.objs.size)) (PIE X pins σ tg R) E { s with heap := s.heap.push { cls := .type "range", data := .fields #[.int lo t, .int hi u, .int 1 v] }, toks := tk } := by
  refine wpAny_pyIter_range (IsRange.new ..) (small_one h1 h2 h3 h4) ?_
  have I1 : Inv X pins σ H { s with heap := s.heap.push { cls := .type "range", data := .fields #[.int lo t, .int hi u, .int 1 v] }, toks := tk } := I.kept fun b o e => Heap.get?_push_of_some _ e
  refine ⟨(s.heap.push { cls := .type "range", data := .fields #[.int lo t, .int hi u, .int 1 v] }).objs.size, [(s.heap.push { cls := .type "range", data := .fields #[.int lo t, .int hi u, .int 1 v] }).objs.size], _, _, H, rfl,
    I1.kept (t' := tk) fun b o e => Heap.get?_push_of_some _ e, turn_range _ lo (hi - lo).toNat, ?_, fun b hb => ?_, q⟩
  · have e1 : lo + ((0 : Nat) : Int) * 1 = lo := by simp
    have e2 : (((hi - lo).toNat : Nat) : Int) - ((0 : Nat) : Int) = Builtin.Range.rangeSize lo hi 1 := by rw [rangeSize_one]; split <;> omega
    show IsRangeIter _ _ (lo + ((0 : Nat) : Int) * 1) ((((hi - lo).toNat : Nat) : Int) - ((0 : Nat) : Int)) 1
    rw [e1, e2]
    exact Heap.get?_push_size _ rfl
  · have e : b = (s.heap.push { cls := .type "range", data := .fields #[.int lo t, .int hi u, .int 1 v] }).objs.size := by simpa using hb
    subst e
    exact I1.fpOk (Nat.le_refl _) (I1.hok.fresh (Nat.le_refl _))
def iRng1 (ta : TA) : TI := fun σ H R => ta σ H fun vs H1 => ∃ j : Int, vs = [.int j] ∧ -(2 ^ 62) ≤ j ∧ j < 2 ^ 62 ∧ R (Itr 0 j.toNat) H1
theorem pi_range1 {a : Expr} {ta : TA} {p pos : Pos} (hg : Gl X "range") (hm : X.mg "range" = none) (ha : PA X [a] ta) (hs : starEach [a] X.env = [(false, eval a X.env)] := by rfl) : PI X tg (.Call (.Name "range" p) [a] [] pos) (iRng1 ta) := by
  intro pins s σ H R I h
  refine Call_ (ld_blt I hg hm boot_range (PyProof.Rows.callWith_type1 (thn (ha pos pins s σ H _ I h) fun us s1 ⟨vs, H1, I1, r1, q1⟩ => ?_) hs rfl))
  obtain ⟨j, e, q1, q2, q⟩ := q1
  subst e
  cases r1 with
  | cons r rr =>
    cases rr
    obtain ⟨t, rfl⟩ := r
    exact call_range_1 (range_it I1 (by omega) (by omega) q1 q2 (by simpa using q))
def tFor (wi : TI) (g : TG) (tb : TS) : TS := fun D σ H => wi σ H fun J H1 => ∃ W : Nat → Nat → St → Hp → Prop, (∃ m, W 0 m σ H1) ∧ ∀ i m σ H, W i m σ H →
  (J.stop i H ∧ D.nx σ H) ∨ (J.go i H ∧ ∃ N : St → Hp → Prop, (∀ σ' H', N σ' H' → ∃ m', m' < m ∧ W (i + 1) m' σ' H') ∧ ∀ x H', J.yld i H x H' → g x σ H' fun σ2 H2 => tb { D with nx := N, ct := N, bk := D.nx } σ2 H2)
def pinsAt (fp : List Addr) (h : Heap) : List (Addr × Obj) := fp.filterMap fun b => (h.get? b).map fun o => (b, o)
theorem mem_pinsAt {fp : List Addr} {h : Heap} {b : Addr} {o : Obj} (hb : b ∈ fp) (e : h.get? b = some o) : (b, o) ∈ pinsAt fp h := List.mem_filterMap.mpr ⟨b, hb, by rw [e]; rfl⟩
theorem of_pinsAt {fp : List Addr} {h : Heap} {p : Addr × Obj} (hp : p ∈ pinsAt fp h) : p.1 ∈ fp ∧ h.get? p.1 = some p.2 := by
  obtain ⟨b, hb, e⟩ := List.mem_filterMap.mp hp
  cases q : h.get? b with
  | none => rw [q] at e; cases e
  | some o =>
    rw [q] at e
    have e' : (b, o) = p := Option.some.inj e
    subst e'
    exact ⟨hb, q⟩
theorem Inv.pinned {pins : List (Addr × Obj)} {σ : St} {H : Hp} {s : Shared} {fp : List Addr} (I : Inv X pins σ H s) (hf : ∀ b ∈ fp, FpOk X pins H b) (ho : ∀ b ∈ fp, ∃ o, s.heap.get? b = some o ∧ ∀ v, o.data ≠ .cell v) : Inv X (pins ++ pinsAt fp s.heap) σ H s :=
  I.pins_of fun p hp => (List.mem_append.mp hp).elim (fun z => I.pin p (List.mem_append_right _ z)) fun z => by
    obtain ⟨hb, e⟩ := of_pinsAt z
    obtain ⟨f0, f1, f2, _⟩ := hf p.1 hb
    obtain ⟨o, e', d⟩ := ho p.1 hb
    rw [e] at e'; cases e'
    exact ⟨e, f0, f1, f2, d⟩
theorem Inv.unpinned {pins pl : List (Addr × Obj)} {σ : St} {H : Hp} {s : Shared} (I : Inv X (pins ++ pl) σ H s) : Inv X pins σ H s := I.pins_of fun p hp => I.pin p (List.mem_append_right _ (List.mem_append_left _ hp))
theorem ps_for {iter : Expr} {body : List Stmt} {wi : TI} {g : TG} {tb : TS} {pos : Pos} (hp : PassesOwn (model X.prog X.w) X.A X.env X.xe) (hc : X.calm = true) (hi : PI X tg iter wi) (hg : PG X tg g) (hb : PSs X body tb)
    (hs : ∀ x, foldedSetIterable iter X.env x = pure x := by intro _; rfl) : PS X (.For tg iter body [] pos) (tFor wi g tb) := by
  intro pins s σ H D I h
  refine wpAny_For (thn (hi pins s σ H _ I h) fun v s1 h1 => thn h1 fun itv s2 h2 => ?_) hs
  obtain ⟨it, fp, tn, J, H2, e, I2, T, st2, f2, W, ⟨m0, w0⟩, turn⟩ := h2
  subst e
  -- what stays true of the iterator's objects through the loop
  have stat : ∀ {H' : Hp}, (∀ b ∈ fp, H' b = none) → ∀ b ∈ fp, FpOk X pins H' b := fun hn b hb => ⟨hn b hb, (f2 b hb).2⟩
  refine codeAny_forLoop_any (fun n s' => ∃ i σ' H', Inv X pins σ' H' s' ∧ tn i s'.heap ∧ (∀ b ∈ fp, H' b = none) ∧ W i n σ' H') ?_ m0 ⟨0, σ, H2, I2, st2, fun b hb => (f2 b hb).1, w0⟩
  rintro n s3 ⟨i, σ3, H3, I3, st3, fr3, w3⟩
  rcases turn i n σ3 H3 w3 with ⟨stop, qn⟩ | ⟨go, N, hN, step⟩
  · refine wpAny_passesOwn hp (thn (T.done X rfl rfl rfl hc i pins s3 σ3 H3 X.xe I3 (stat fr3) st3 stop) fun r s4 ⟨hr, I4⟩ => ?_)
    subst hr
    exact wpAny_execs_nil ⟨σ3, H3, I4, qn⟩
  · refine wpAny_passesOwn hp (thn (T.item X rfl rfl rfl hc i pins s3 σ3 H3 X.xe I3 (stat fr3) st3 go) fun r s4 ⟨u, hr, h4⟩ => ?_)
    subst hr
    refine wpAny_passesOwn hp (thn h4 fun _ s5 ⟨x, H5, I5, r5, y5, st5, fr5⟩ => ?_)
    have I5' := I5.pinned (stat fr5) (T.obj _ _ st5)
    refine wpAny_passesOwn hp (thn (hg _ s5 σ3 H5 x u _ I5' r5 (step x H5 y5)) fun _ s6 ⟨σ6, H6, I6, q6⟩ => ?_)
    refine wpAny_passesOwn hp (thn (hb _ s6 σ6 H6 _ I6 q6) fun f s7 q7 => ?_)
    have again : ∀ {σ7 : St} {H7 : Hp}, Inv X (pins ++ pinsAt fp s5.heap) σ7 H7 s7 → N σ7 H7 → ∃ m, m < n ∧ ∃ i σ' H', Inv X pins σ' H' s7 ∧ tn i s7.heap ∧ (∀ b ∈ fp, H' b = none) ∧ W i m σ' H' := fun {σ7 H7} I7 n7 => by
      obtain ⟨m', hm, w7⟩ := hN σ7 H7 n7
      refine ⟨m', hm, i + 1, σ7, H7, I7.unpinned, T.keep _ _ _ st5 fun b hb o e => (I7.pin (b, o) (List.mem_append_right _ (List.mem_append_right _ (mem_pinsAt hb e)))).1, fun b hb => ?_, w7⟩
      obtain ⟨o, e, d⟩ := T.obj _ _ st5 b hb
      exact (I7.pin (b, o) (List.mem_append_right _ (List.mem_append_right _ (mem_pinsAt hb e)))).2.1
    cases f with
    | next => obtain ⟨σ7, H7, I7, n7⟩ := q7; exact again I7 n7
    | cont => obtain ⟨σ7, H7, I7, n7⟩ := q7; exact again I7 n7
    | brk => obtain ⟨σ7, H7, I7, q7⟩ := q7; exact ⟨σ7, H7, I7.unpinned, q7⟩
    | ret v => obtain ⟨x7, σ7, H7, I7, r7, q7⟩ := q7; exact ⟨x7, σ7, H7, I7.unpinned, r7, q7⟩
end
end L2
namespace L2
open PySem PySem.Spec PyProof.Rows
abbrev R2 := V → V → Hp → VK → Prop
def OpR (X : Cx) (f : Value → Value → Sem Value) (r : R2) : Prop :=
  ∀ (pins : List (Addr × Obj)) (s : Shared) (σ : St) (H : Hp) (x y : V) (v u : Value) (Q : VK), Inv X pins σ H s → RelV x v → RelV y u → r x y H Q →
    wpAny (model X.prog X.w) X.A (f v u) (EP X pins σ Q) X.xe s
def UnR (X : Cx) (f : Value → Sem Value) (r : V → Hp → VK → Prop) : Prop :=
  ∀ (pins : List (Addr × Obj)) (s : Shared) (σ : St) (H : Hp) (x : V) (v : Value) (Q : VK), Inv X pins σ H s → RelV x v → r x H Q →
    wpAny (model X.prog X.w) X.A (f v) (EP X pins σ Q) X.xe s
def CallR (X : Cx) (f : Value) (r : List V → Hp → VK → Prop) : Prop :=
  ∀ (pins : List (Addr × Obj)) (s : Shared) (σ : St) (H : Hp) (xs : List V) (us : List Value) (Q : VK), Inv X pins σ H s → Vals xs us → r xs H Q →
    wpAny (model X.prog X.w) X.A (call f us) (EP X pins σ Q) X.xe s
def TruR (X : Cx) (r : V → Hp → (Bool → Hp → Prop) → Prop) : Prop :=
  ∀ (pins : List (Addr × Obj)) (s : Shared) (σ : St) (H : Hp) (x : V) (v : Value) (Q : Bool → Hp → Prop), Inv X pins σ H s → RelV x v → r x H Q →
    wpAny (model X.prog X.w) X.A (truthy v) (TP X pins σ Q) X.xe s
def tOp (r : R2) (ta tb : TE) : TE := fun σ H Q => ta σ H fun x H1 => tb σ H1 fun y H2 => r x y H2 Q
def tUn (r : V → Hp → VK → Prop) (ta : TE) : TE := fun σ H Q => ta σ H fun x H1 => r x H1 Q
def rI (C : Int → Int → Prop) (g : Int → Int → V) : R2 := fun x y H Q => ∃ i j, x = .int i ∧ y = .int j ∧ C i j ∧ Q (g i j) H
def rI0 (g : Int → Int → V) : R2 := fun x y H Q => ∃ i j, x = .int i ∧ y = .int j ∧ Q (g i j) H
def rU (g : Int → V) : V → Hp → VK → Prop := fun x H Q => ∃ i, x = .int i ∧ Q (g i) H
section
variable {X : Cx} {a b c : Expr} {ta tb tc : TE} {pos : Pos}
theorem binT (ha : PE X a ta) (hb : PE X b tb) {pins : List (Addr × Obj)} {s : Shared} {σ : St} {H : Hp} {R : V → V → Hp → Prop} (I : Inv X pins σ H s)
    (h : ta σ H fun x H1 => tb σ H1 fun y H2 => R x y H2) {Q : Value → Shared → Prop} {f : Value → Value → Sem Value}
    (hf : ∀ v u s2 x y H2, Inv X pins σ H2 s2 → RelV x v → RelV y u → R x y H2 → wpAny (model X.prog X.w) X.A (f v u) Q X.xe s2) :
    wpAny (model X.prog X.w) X.A (eval a X.env) (fun v s₁ => wpAny (model X.prog X.w) X.A (eval b X.env) (fun u s₂ => wpAny (model X.prog X.w) X.A (f v u) Q X.xe s₂) X.xe s₁) X.xe s := by
  refine thn (ha pins s σ H _ I h) fun v s1 ⟨x, H1, I1, r1, q1⟩ => ?_
  refine thn (hb pins s1 σ H1 _ I1 q1) fun u s2 ⟨y, H2, I2, r2, q2⟩ => ?_
  exact hf v u s2 x y H2 I2 r1 r2 q2
theorem pe_op {op : Operator} {r : R2} (ho : OpR X (binaryOp op) r) (ha : PE X a ta) (hb : PE X b tb) : PE X (.BinOp a op b pos) (tOp r ta tb) := by
  intro pins s σ H Q I h
  exact wpAny_BinOp (binT ha hb I h fun v u s2 x y H2 I2 rx ry q => ho pins s2 σ H2 x y v u Q I2 rx ry q)
theorem pe_un {op : UnaryOp} {r : V → Hp → VK → Prop} (ho : UnR X (unaryOp op) r) (ha : PE X a ta) : PE X (.UnaryOp op a pos) (tUn r ta) := by
  intro pins s σ H Q I h
  exact UnaryOp_ (thn (ha pins s σ H _ I h) fun v s1 ⟨x, H1, I1, r1, q1⟩ => ho pins s1 σ H1 x v Q I1 r1 q1)
theorem opI {f : Value → Value → Sem Value} {C : Int → Int → Prop} {g : Int → Int → Int}
    (rule : ∀ (i j : Int) (t u : Tok) (s : Shared) (Q : Value → Shared → Prop) (E : Value → Shared → Prop), C i j → Q (.int (g i j) s.toks) { s with toks := s.toks + 1 } → wpAny (model X.prog X.w) X.A (f (.int i t) (.int j u)) Q E s) :
    OpR X f (rI C fun i j => .int (g i j)) := by
  intro pins s σ H x y v u Q I rx ry h
  obtain ⟨i, j, rfl, rfl, hc, q⟩ := h
  obtain ⟨t, rfl⟩ := rx
  obtain ⟨t', rfl⟩ := ry
  exact rule i j t t' s _ _ hc ⟨.int (g i j), H, I.tok _, ⟨_, rfl⟩, q⟩
theorem opI0 {f : Value → Value → Sem Value} {g : Int → Int → Int}
    (rule : ∀ (i j : Int) (t u : Tok) (s : Shared) (Q : Value → Shared → Prop) (E : Value → Shared → Prop), Q (.int (g i j) s.toks) { s with toks := s.toks + 1 } → wpAny (model X.prog X.w) X.A (f (.int i t) (.int j u)) Q E s) :
    OpR X f (rI0 fun i j => .int (g i j)) := by
  intro pins s σ H x y v u Q I rx ry h
  obtain ⟨i, j, rfl, rfl, q⟩ := h
  obtain ⟨t, rfl⟩ := rx
  obtain ⟨t', rfl⟩ := ry
  exact rule i j t t' s _ _ ⟨.int (g i j), H, I.tok _, ⟨_, rfl⟩, q⟩
theorem opB0 {f : Value → Value → Sem Value} {g : Int → Int → Bool}
    (rule : ∀ (i j : Int) (t u : Tok) (s : Shared) (Q : Value → Shared → Prop) (E : Value → Shared → Prop), Q (.bool (g i j)) s → wpAny (model X.prog X.w) X.A (f (.int i t) (.int j u)) Q E s) :
    OpR X f (rI0 fun i j => .bl (g i j)) := by
  intro pins s σ H x y v u Q I rx ry h
  obtain ⟨i, j, rfl, rfl, q⟩ := h
  obtain ⟨t, rfl⟩ := rx
  obtain ⟨t', rfl⟩ := ry
  exact rule i j t t' s _ _ ⟨.bl (g i j), H, I, rfl, q⟩
def CDiv (i j : Int) : Prop := 0 < j ∧ j < 1073741824
def CPow (i j : Int) : Prop := 0 ≤ j ∧ j ≤ 1000000 ∧ i.natAbs < 2 ^ 64
def CMul (i j : Int) : Prop := (-(2 ^ 64) < i ∧ i < 2 ^ 64) ∨ (-(2 ^ 64) < j ∧ j < 2 ^ 64)
theorem CMul.ok {i j : Int} (h : CMul i j) : IntMulOk i j := by
  rcases h with ⟨h1, h2⟩ | ⟨h1, h2⟩
  · exact .of_left (intBits_le_64 h1 h2)
  · exact .of_right (intBits_le_64 h1 h2)
theorem op_add : OpR X (binaryOp .Add) (rI0 fun i j => .int (i + j)) := opI0 fun _ _ _ _ _ _ _ q => add_int q
theorem op_sub : OpR X (binaryOp .Sub) (rI0 fun i j => .int (i - j)) := opI0 fun _ _ _ _ _ _ _ q => sub_int q
theorem op_mul : OpR X (binaryOp .Mult) (rI CMul fun i j => .int (i * j)) := opI fun _ _ _ _ _ _ _ hc q => mul_int q hc.ok
theorem op_fdiv : OpR X (binaryOp .FloorDiv) (rI CDiv fun i j => .int (i / j)) := opI fun i j _ _ _ _ _ hc q => by
  have h1 : (0 : Int) < j := hc.1
  have h2 : j < 1073741824 := hc.2
  exact floordiv_int (by omega) (by rw [Int.fdiv_eq_ediv_of_nonneg i (by omega)]; exact q) (.inl (PyProof.noPylong_small (by omega)))
theorem op_mod : OpR X (binaryOp .Mod) (rI (fun _ j => 0 < j) fun i j => .int (i % j)) := opI fun i j _ _ _ _ _ hc q => by
  have h1 : (0 : Int) < j := hc
  exact mod_int' (by omega) (by rw [Int.fmod_eq_emod_of_nonneg i (by omega)]; exact q)
theorem op_pow : OpR X (binaryOp .Pow) (rI CPow fun i j => .int (i ^ j.toNat)) := opI fun _ _ _ _ _ _ _ hc q => pow_int_small hc.1 hc.2.1 hc.2.2 q
theorem unI {f : Value → Sem Value} {g : Int → Int}
    (rule : ∀ (i : Int) (t : Tok) (s : Shared) (Q : Value → Shared → Prop) (E : Value → Shared → Prop), Q (.int (g i) s.toks) { s with toks := s.toks + 1 } → wpAny (model X.prog X.w) X.A (f (.int i t)) Q E s) :
    UnR X f (rU fun i => .int (g i)) := by
  intro pins s σ H x v Q I rx h
  obtain ⟨i, rfl, q⟩ := h
  obtain ⟨t, rfl⟩ := rx
  exact rule i t s _ _ ⟨.int (g i), H, I.tok _, ⟨_, rfl⟩, q⟩
theorem un_neg : UnR X (unaryOp .USub) (rU fun i => .int (-i)) := unI fun _ _ _ _ _ q => neg_int q
end
section
variable {X : Cx} {a b c : Expr} {ta tb tc : TE} {pos : Pos}
theorem fin_bl {pins : List (Addr × Obj)} {σ : St} {H : Hp} {s : Shared} {Q : VK} {k k' : Bool} (I : Inv X pins σ H s) (q : Q (.bl k) H) (e : k = k') : EP X pins σ Q (.bool k') s := by
  subst e
  exact ⟨.bl k, H, I, rfl, q⟩
theorem op_gt : OpR X (compareOp .Gt) (rI0 fun i j => .bl (decide (j < i))) := opB0 fun _ _ _ _ _ _ _ q => gt_int q
theorem op_in_str : OpR X (compareOp .In) (fun x y H Q => ∃ i j, x = .str i ∧ y = .str j ∧ Q (.bl (!(Builtin.Str.occurrences j i 0 j.length 1).isEmpty)) H) := by
  intro pins s σ H x y v u Q I rx ry h
  obtain ⟨i, j, rfl, rfl, q⟩ := h
  obtain ⟨t, rfl⟩ := rx
  obtain ⟨t', rfl⟩ := ry
  exact in_str (fin_bl I q rfl)
theorem op_notin_str : OpR X (compareOp .NotIn) (fun x y H Q => ∃ i j, x = .str i ∧ y = .str j ∧ Q (.bl (!(!(Builtin.Str.occurrences j i 0 j.length 1).isEmpty))) H) := by
  intro pins s σ H x y v u Q I rx ry h
  obtain ⟨i, j, rfl, rfl, q⟩ := h
  obtain ⟨t, rfl⟩ := rx
  obtain ⟨t', rfl⟩ := ry
  exact notIn_str (fin_bl I q rfl)
theorem OpR.or {f : Value → Value → Sem Value} {r r' : R2} (h : OpR X f r) (h' : OpR X f r') : OpR X f (fun x y H Q => r x y H Q ∨ r' x y H Q) := by
  intro pins s σ H x y v u Q I rx ry q
  rcases q with q | q
  · exact h pins s σ H x y v u Q I rx ry q
  · exact h' pins s σ H x y v u Q I rx ry q
theorem pe_cmpR {op : CmpOp} {r : R2} (ho : OpR X (compareOp op) r) (ha : PE X a ta) (hb : PE X b tb) (hm : behindInMarks op b = false) : PE X (.Compare a [op] [b] pos) (tOp r ta tb) := by
  intro pins s σ H Q I h
  exact wpAny_Compare1 (binT ha hb I h fun v u s2 x y H2 I2 rx ry q => ho pins s2 σ H2 x y v u Q I2 rx ry q) hm
def tTest (t : TE) : TT := fun σ H Q => t σ H fun x H' => ∃ k, x = .bl k ∧ Q k H'
theorem pt_cmpR {op : CmpOp} {r : R2} (ho : OpR X (compareOp op) r) (ha : PE X a ta) (hb : PE X b tb) (hm : behindInMarks op b = false) : PT X (.Compare a [op] [b] pos) (tTest (tOp r ta tb)) := by
  intro pins s σ H Q I h
  refine wpAny_isTrue_Compare1 (thn (ha pins s σ H _ I h) fun v s1 ⟨x, H1, I1, r1, q1⟩ => thn (hb pins s1 σ H1 _ I1 q1) fun u s2 ⟨y, H2, I2, r2, q2⟩ =>
    thn (ho pins s2 σ H2 x y v u _ I2 r1 r2 q2) fun c s3 ⟨z, H3, I3, r3, k, e, q3⟩ => ?_) hm
  subst e
  cases r3
  exact wpAny_truthy_bool ⟨H3, I3, q3⟩
def TruV (K : PySem.W.Frag) (x : V) (H : Hp) (k : Bool) : Prop :=
  match x with
  | .non => k = false
  | .bl b => k = b
  | .int i => k = (i != 0)
  | .str y => y.length ≤ sizeLine ∧ k = ((y.length : Int) != 0)
  | .byt y => y.size ≤ sizeLine ∧ k = ((y.size : Int) != 0)
  | .ref p => (∃ xs, SqL K H p xs ∧ k = !xs.isEmpty) ∨ (∃ xs, SqT K H p xs ∧ k = !xs.isEmpty) ∨ ∃ kvs, H p = some (.dK kvs) ∧ k = !kvs.isEmpty
  | _ => False
theorem isEmpty_kv {κ : Type} {kvs : List (κ × V)} {vs : List (κ × Value)} (r : KV kvs vs) : (!vs.isEmpty) = !kvs.isEmpty := by
  cases r <;> rfl
theorem isEmpty_of {xs : List V} {its : List Value} (r : Vals xs its) : (!its.toArray.isEmpty) = !xs.isEmpty := by
  cases r <;> simp
theorem line63 : (sizeLine : Nat) < 2 ^ 63 := by rw [sizeLine_eq]; decide
theorem tru_ok : TruR X (fun x H Q => ∃ k, TruV X.K x H k ∧ Q k H) := by
  intro pins s σ H x v Q I rx h
  obtain ⟨k, e, q⟩ := h
  have hl := line63
  have hs : sizeLine = 16777216 := sizeLine_eq
  cases x with
  | non =>
    cases rx
    have e' : k = false := e
    subst e'
    exact truthy_none ⟨H, I, q⟩
  | bl b =>
    cases rx
    have e' : k = b := e
    subst e'
    exact wpAny_truthy_bool ⟨H, I, q⟩
  | int i =>
    obtain ⟨t, rfl⟩ := rx
    have e' : k = (i != 0) := e
    subst e'
    exact PySem.P.truthy_int ⟨H, I, q⟩
  | str y =>
    obtain ⟨t, rfl⟩ := rx
    obtain ⟨hy, e'⟩ : y.length ≤ sizeLine ∧ k = ((y.length : Int) != 0) := e
    subst e'
    exact PySem.P.truthy_str (by omega) ⟨H, I.tok _, q⟩
  | byt y =>
    obtain ⟨t, rfl⟩ := rx
    obtain ⟨hy, e'⟩ : y.size ≤ sizeLine ∧ k = ((y.size : Int) != 0) := e
    subst e'
    exact PySem.W.truthy_bytes (by omega) ⟨H, I.tok _, q⟩
  | ref p =>
    cases rx
    have e' : (∃ xs, SqL X.K H p xs ∧ k = !xs.isEmpty) ∨ (∃ xs, SqT X.K H p xs ∧ k = !xs.isEmpty) ∨ ∃ kvs, H p = some (.dK kvs) ∧ k = !kvs.isEmpty := e
    rcases e' with ⟨xs, hx, e'⟩ | ⟨xs, hx, e'⟩ | ⟨kvs, hx, e'⟩
    · subst e'
      obtain ⟨its, r, pl, hz⟩ := I.list hx
      have hlen := r.length
      exact wpAny_truthy_list pl.isList (by simp only [List.size_toArray]; omega) ⟨H, I.tok _, by rw [isEmpty_of r]; exact q⟩
    · subst e'
      obtain ⟨its, r, pl, hz⟩ := I.tuple hx
      have hlen := r.length
      exact truthy_tuple pl (by simp only [List.size_toArray]; omega) ⟨H, I.tok _, by rw [isEmpty_of r]; exact q⟩
    · subst e'
      obtain ⟨hz, hS, vs, r, m⟩ : kvs.length ≤ sizeLine ∧ (p == sysModules) = false ∧ ∃ vs, KV kvs vs ∧ s.heap.DictOf (mixKind X.prog X.w) p vs := I.hok p _ hx
      have hlen : kvs.length = vs.length := Paired.length r
      exact wpAny_truthy_dict hS m (by omega) ⟨H, I.tok _, by rw [isEmpty_kv r]; exact q⟩
  | _ => exact (show False from e).elim
theorem pt_truth (ha : PE X a ta) (he : ∀ whole, isTrue a X.env whole = (do let v ← whole; standAt a.pos; holding [v] (truthy v))) :
    PT X a (fun σ H Q => ta σ H fun x H' => ∃ k, TruV X.K x H' k ∧ Q k H') := by
  intro pins s σ H Q I h
  exact isTrue_plain (thn (ha pins s σ H _ I h) fun v s1 ⟨x, H1, I1, r1, q1⟩ => tru_ok pins s1 σ H1 x v Q I1 r1 q1) (he _)
theorem op_add_str : OpR X (binaryOp .Add) (fun x y H Q => ∃ i j, x = .str i ∧ y = .str j ∧ i.length + j.length ≤ sizeLine ∧ Q (.str (i ++ j)) H) := by
  intro pins s σ H x y v u Q I rx ry h
  obtain ⟨i, j, rfl, rfl, hz, q⟩ := h
  obtain ⟨t, rfl⟩ := rx
  obtain ⟨t', rfl⟩ := ry
  exact add_str (fun t' tk => ⟨.str (i ++ j), H, I.tok _, ⟨_, rfl⟩, q⟩) hz
theorem vals1 {x : V} {us : List Value} (r : Vals [x] us) : ∃ u, us = [u] ∧ RelV x u := by
  cases r with
  | cons r1 r2 => cases r2; exact ⟨_, rfl, r1⟩
theorem vals2 {x y : V} {us : List Value} (r : Vals [x, y] us) : ∃ u w', us = [u, w'] ∧ RelV x u ∧ RelV y w' := by
  cases r with
  | cons r1 r2 =>
    cases r2 with
    | cons r3 r4 => cases r4; exact ⟨_, _, rfl, r1, r3⟩
def LenV (K : PySem.W.Frag) (x : V) (H : Hp) (n : Nat) : Prop :=
  match x with
  | .str y => y.length ≤ sizeLine ∧ n = y.length
  | .byt y => y.size ≤ sizeLine ∧ n = y.size
  | .ref p => (∃ xs, SqL K H p xs ∧ n = xs.length) ∨ ∃ xs, SqT K H p xs ∧ n = xs.length
  | _ => False
theorem call_len : CallR X (.builtin "len") (fun xs H Q => ∃ x n, xs = [x] ∧ LenV X.K x H n ∧ Q (.int n) H) := by
  intro pins s σ H xs us Q I r h
  obtain ⟨x, n, rfl, e, q⟩ := h
  obtain ⟨u, rfl, rx⟩ := vals1 r
  have hl := line63
  have hs : sizeLine = 16777216 := sizeLine_eq
  cases x with
  | str y =>
    obtain ⟨t, rfl⟩ := rx
    obtain ⟨hy, e'⟩ : y.length ≤ sizeLine ∧ n = y.length := e
    subst e'
    exact len_str (by omega) ⟨.int _, H, I.tok _, ⟨_, rfl⟩, q⟩
  | byt y =>
    obtain ⟨t, rfl⟩ := rx
    obtain ⟨hy, e'⟩ : y.size ≤ sizeLine ∧ n = y.size := e
    subst e'
    exact PySem.W.len_bytes (by omega) ⟨.int _, H, I.tok _, ⟨_, rfl⟩, q⟩
  | ref p =>
    cases rx
    have e' : (∃ xs, SqL X.K H p xs ∧ n = xs.length) ∨ ∃ xs, SqT X.K H p xs ∧ n = xs.length := e
    rcases e' with ⟨xs, hx, e'⟩ | ⟨xs, hx, e'⟩
    · subst e'
      obtain ⟨its, r', pl, hz⟩ := I.list hx
      have hlen := r'.length
      exact Calls.call_len_list pl.isList (by simp only [List.size_toArray]; omega) ⟨.int xs.length, H, I.tok _, ⟨_, by simp only [List.size_toArray]; rw [hlen]⟩, q⟩
    · subst e'
      obtain ⟨its, r', pl, hz⟩ := I.tuple hx
      have hlen := r'.length
      exact len_tuple pl (by simp only [List.size_toArray]; omega) ⟨.int xs.length, H, I.tok _, ⟨_, by simp only [List.size_toArray]; rw [hlen]⟩, q⟩
  | _ => exact (show False from e).elim
end
end L2
namespace L2
open PySem PySem.Spec PyProof.Rows
section
variable {prog : Program} {w : World} {A : Around} {E : Value → Shared → Prop} {s : Shared} {K : PySem.W.Frag} {x dx C f : Addr} {mA : Str → Option Value} {name : Str} {v : Value}
end
section
variable {P : Program} {w : World} {H H' : Hp} {h h' : Heap} {a C dx : Addr} {fs fs' : List (Str × V)}
end
structure Cls (K : PySem.W.Frag) (C : Addr) : Prop where
  pg : PySem.W.plainGet K C Str.empty = true
  hd : PySem.W.hasDictIn K C = true
  po : PySem.W.plainOver K C = true
  sa : PySem.W.findIn K (.ref C) "__setattr__" = some (some (.builtin "object.__setattr__"))
theorem Cls.get {K : PySem.W.Frag} {C : Addr} (c : Cls K C) (f : Str) : PySem.W.plainGet K C f = true := c.pg
section
variable {X : Cx} {pins : List (Addr × Obj)} {σ : St} {H : Hp} {s : Shared} {a C dx : Addr} {fs : List (Str × V)} {f : Str} {v : V} {A : Around} {E : Value → Shared → Prop}
end
section
variable {X : Cx} {o e value : Expr} {f : Str} {pos pos' tpos : Pos} {ta tv : TE}
end
section
variable {X : Cx} {pins : List (Addr × Obj)} {σ : St} {H : Hp} {s : Shared} {A : Around} {E : Value → Shared → Prop} {Q : Value → Shared → Prop} {c : Value} {b : Bool}
end
end L2
namespace L2
open PySem PySem.Spec PyProof.Rows
structure Room (k : Nat) (A : Around) : Prop where
  hd : A.handled = none
  dp : A.depth + 3 * k + 5 < recursionLimit
  un : A.units + 16 * k + 200 < cLine
theorem Room.mono {j k : Nat} {A : Around} (r : Room k A) (h : j ≤ k) : Room j A := ⟨r.hd, by have := r.dp; omega, by have := r.un; omega⟩
theorem Room.deeper {k : Nat} {A : Around} (r : Room (k + 1) A) (env : Env) : Room k (A.deeper env) :=
  ⟨r.hd, by have := r.dp; show A.depth + 1 + 3 * k + 5 < _; omega, by have := r.un; show A.units + 3 + 16 * k + 200 < _; omega⟩
theorem Room.in1 {k : Nat} {A : Around} (r : Room (k + 1) A) : Room k A.in1 :=
  ⟨r.hd, by have := r.dp; show A.depth + 3 * k + 5 < _; omega, by have := r.un; show A.units + 1 + 16 * k + 200 < _; omega⟩
theorem Room.depth {k : Nat} {A : Around} (r : Room k A) : A.depth < recursionLimit := by have := r.dp; omega
theorem Room.units {k : Nat} {A : Around} (r : Room k A) : A.units + 64 < cLine := by have := r.un; omega
def tNil : TA := fun _ H Q => Q [] H
def tCons (ta : TE) (tr : TA) : TA := fun σ H Q => ta σ H fun x H1 => tr σ H1 fun xs H2 => Q (x :: xs) H2
section
variable {X : Cx} {e : Expr} {es : List Expr} {te : TE} {t : TA} {pos : Pos}
theorem pa_nil : PA X [] tNil := fun _ _ _ _ H Q I h => Calls.spliced_nil ⟨[], H, I, .nil, h⟩
theorem pa_cons (ha : PE X e te) (hr : PA X es t) (hs : starEach (e :: es) X.env = (false, eval e X.env) :: starEach es X.env := by rfl) : PA X (e :: es) (tCons te t) := by
  intro pos pins s σ H Q I h
  rw [hs]
  show wpAny _ _ (spliced ((false, eval e X.env) :: backTo pos (starEach es X.env))) _ _ s
  refine Calls.spliced_cons (thn (ha pins s σ H _ I h) fun u s1 ⟨x, H1, I1, r1, q1⟩ => ?_)
  exact thn (hr pos pins s1 σ H1 _ I1 q1) fun us s2 ⟨xs, H2, I2, r2, q2⟩ => ⟨x :: xs, H2, I2, .cons r1 r2, q2⟩
def tTup (t : TA) : TE := fun σ H Q => t σ H fun xs H1 => xs.length ≤ sizeLine ∧ ∀ p, H1 p = none → Q (.ref p) (upd H1 p (.tup xs))
def tLst (t : TA) : TE := fun σ H Q => t σ H fun xs H1 => xs.length ≤ sizeLine ∧ ∀ p, H1 p = none → Q (.ref p) (upd H1 p (.lst xs))
theorem pe_tup {x1} (h : PA X es t) : PE X (.Tuple es x1 pos) (tTup t) := by
  intro pins s σ H Q I hq
  refine wpAny_Tuple_spliced (thn (h pos pins s σ H _ I hq) fun us s1 ⟨xs, H1, I1, r, z, q⟩ => ⟨by rw [← r.length]; exact z, ?_⟩)
  have hf : H1 s1.heap.objs.size = none := I1.hok.fresh (Nat.le_refl _)
  refine ⟨.ref s1.heap.objs.size, upd H1 s1.heap.objs.size (.tup xs), I1.laid (t' := s1.toks) (fun b u e => Heap.get?_push_of_some _ e) (Nat.le_refl _) ?_, rfl, q _ hf⟩
  exact ⟨z, us, r, ⟨_, Heap.get?_push_size _ rfl, rfl, _, rfl⟩⟩
theorem pe_lst (h : PA X es t) : PE X (.List es pos) (tLst t) := by
  intro pins s σ H Q I hq
  refine wpAny_List_spliced (thn (h pos pins s σ H _ I hq) fun us s1 ⟨xs, H1, I1, r, z, q⟩ => ⟨by rw [← r.length]; exact z, ?_⟩)
  have hf : H1 s1.heap.objs.size = none := I1.hok.fresh (Nat.le_refl _)
  refine ⟨.ref s1.heap.objs.size, upd H1 s1.heap.objs.size (.lst xs), I1.laid (t' := s1.toks) (fun b u e => Heap.get?_push_of_some _ e) (Nat.le_refl _) ?_, rfl, q _ hf⟩
  exact ⟨z, us, 0, r, Heap.get?_push_size _ rfl⟩
end
abbrev Sp := List V → Hp → VK → XK → Prop
abbrev CXT := List Env → Hp → Shared → XK → Value → Shared → Prop
structure Env0 (P : Program) (w : World) (K : PySem.W.Frag) (mg : Str → Option Value) (base : Heap) (A : Around) (outer : List Env) (s : Shared) (H : Hp) : Prop where
  frames : A.frames = some outer
  mod : Mod K mg base
  bs : ∀ b o, base.get? b = some o → s.heap.get? b = some o ∧ H b = none
  bsz : base.objs.size ≤ s.heap.objs.size
  funs : s.heap.FunFrames base outer
  frf : ∀ b ∈ frs outer, H b = none
  hok : HOk P w H s.heap
  bare : AllBare s.gens
def CE (outer : List Env) (P : Program) (w : World) (H : Hp) (s : Shared) (Q : VK) (u : Value) (s' : Shared) : Prop :=
  ∃ v H', s'.os = s.os ∧ AllBare s'.gens ∧ Un (frs outer) [] H H' s.heap s'.heap ∧ HOk P w H' s'.heap ∧ RelV v u ∧ Q v H'
def CR (CX : CXT) (outer : List Env) (P : Program) (w : World) (H : Hp) (s : Shared) (Q : VK) (E : XK) (r : Result) (s' : Shared) : Prop :=
  match r with
  | .ok (.ret u) => CE outer P w H s Q u s'
  | .ok _ => False
  | .error e => CX outer H s E e s'
structure FnOk (P : Program) (w : World) (K : PySem.W.Frag) (mg : Str → Option Value) (base : Heap) (CX : CXT) (k : Nat) (f : Addr) (fd : FuncData) (ps : List Str) (sp : Sp) : Prop where
  len : ∀ vs H Q E, sp vs H Q E → vs.length = ps.length
  run : ∀ (A : Around) (outer : List Env) (s : Shared) (H : Hp) (args : Args) (us : List Value) (vs : List V) (Q : VK) (E : XK), Room k A → Env0 P w K mg base A outer s H → BindsTo s fd args (ps.zip us) → Vals vs us → sp vs H Q E →
    codeAny (model P w) A (.call (.ref f) args) (CR CX outer P w H s Q E) s
theorem FnOk.mono {P : Program} {w : World} {K : PySem.W.Frag} {mg : Str → Option Value} {base : Heap} {CX : CXT} {j k : Nat} {f : Addr} {fd : FuncData} {ps : List Str} {sp : Sp} (F : FnOk P w K mg base CX j f fd ps sp) (h : j ≤ k) :
    FnOk P w K mg base CX k f fd ps sp := ⟨F.len, fun A outer s H args us vs Q E hr => F.run A outer s H args us vs Q E (hr.mono h)⟩
theorem FnOk.imp {P : Program} {w : World} {K : PySem.W.Frag} {mg : Str → Option Value} {base : Heap} {CX : CXT} {k : Nat} {f : Addr} {fd : FuncData} {ps : List Str} {sp sp' : Sp} (F : FnOk P w K mg base CX k f fd ps sp)
    (h : ∀ vs H Q E, sp' vs H Q E → sp vs H Q E) : FnOk P w K mg base CX k f fd ps sp' :=
  ⟨fun vs H Q E q => F.len vs H Q E (h _ _ _ _ q), fun A outer s H args us vs Q E hr he hb hv hs => F.run A outer s H args us vs Q E hr he hb hv (h _ _ _ _ hs)⟩
theorem Env0.in1 {P : Program} {w : World} {K : PySem.W.Frag} {mg : Str → Option Value} {base : Heap} {A : Around} {outer : List Env} {s : Shared} {H : Hp} (e : Env0 P w K mg base A outer s H) :
    Env0 P w K mg base A.in1 outer s H := ⟨e.frames, e.mod, e.bs, e.bsz, e.funs, e.frf, e.hok, e.bare⟩
section
variable {X : Cx} {pins : List (Addr × Obj)} {σ : St} {H : Hp} {s s' : Shared}
theorem Inv.env0 (I : Inv X pins σ H s) : Env0 X.prog X.w X.K X.mg X.base X.A X.stack s H :=
  ⟨I.ok.frames, I.ok.mod, I.bs, Nat.le_trans I.ok.bsz I.sz, I.stack, I.stkFree, I.hok, I.bare⟩
theorem Inv.after {Q : VK} {u : Value} (I : Inv X pins σ H s) (h : CE X.stack X.prog X.w H s Q u s') : EP X pins σ Q u s' := by
  obtain ⟨v, H', os, bare, un, hok, r, q⟩ := h
  obtain ⟨hh, g, d, t, os'⟩ := s'
  obtain rfl : os' = s.os := os
  exact ⟨v, H', I.call (h' := hh) (g' := g) (d' := d) (t' := t) (ch := []) un hok bare (fun b z => absurd z (by simp)), r, q⟩
end
def tCall (sp : Sp) (dvs : List V) (E : XK) (t : TA) : TE := fun σ H Q => t σ H fun vs H1 => sp (vs ++ dvs) H1 Q E
def Binds (K : PySem.W.Frag) (fd : FuncData) (ps : List Str) (ds : List Value) : Prop :=
  ∀ (s : Shared) (us : List Value), K.In s.heap → (us ++ ds).length = ps.length → BindsTo s fd ⟨us, []⟩ (ps.zip (us ++ ds))
theorem Binds.all {K : PySem.W.Frag} {fd : FuncData} {ps : List Str} (h : ∀ us : List Value, us.length = ps.length → bindArgs fd ⟨us, []⟩ = pure (ps.zip us)) : Binds K fd ps [] := fun s us _ hl => by
  rw [List.append_nil] at hl ⊢
  exact .of_eq (h us hl)
def Passes (CX : CXT) (X : Cx) (E : XK) : Prop := ∀ (pins : List (Addr × Obj)) (σ : St) (H : Hp) (s : Shared) (e : Value) (s' : Shared), Inv X pins σ H s → CX X.stack H s E e s' → X.xe e s'
section
variable {X : Cx} {CX : CXT} {k : Nat} {f C : Addr} {fd : FuncData} {ps : List Str} {sp : Sp} {dvs : List V} {ds : List Value} {E : XK} {x m : Str} {p pos apos : Pos} {e o : Expr} {es : List Expr} {ta : TE} {t : TA}
theorem run_fn {pins : List (Addr × Obj)} {σ : St} {H : Hp} {s : Shared} {Q : VK} {us : List Value} {vs : List V} (F : FnOk X.prog X.w X.K X.mg X.base CX k f fd ps sp) (hr : Room k X.A) (hb : Binds X.K fd ps ds) (hd : Vals dvs ds) (hx : Passes CX X E)
    (I : Inv X pins σ H s) (r : Vals vs us) (h : sp (vs ++ dvs) H Q E) : wpAny (model X.prog X.w) X.A (call (.ref f) us) (EP X pins σ Q) X.xe s := by
  have r2 : Vals (vs ++ dvs) (us ++ ds) := r.append hd
  have hl : (us ++ ds).length = ps.length := by rw [← r2.length]; exact F.len _ _ _ _ h
  refine wpAny_call (codeAny_mono (F.run X.A X.stack s H ⟨us, []⟩ (us ++ ds) (vs ++ dvs) Q E hr I.env0 (hb s us I.kIn hl) r2 h) fun r s' hq => ?_)
  cases r with
  | error e => exact hx pins σ H s e s' I hq
  | ok fl =>
    cases fl with
    | ret u => exact I.after hq
    | next => exact False.elim hq
    | brk => exact False.elim hq
    | cont => exact False.elim hq
theorem pe_call (F : FnOk X.prog X.w X.K X.mg X.base CX k f fd ps sp) (hr : Room k X.A) (hg : Gl X x) (hm : X.mg x = some (.ref f)) (hk : PySem.W.keepIn X.K (.ref f) = true) (hb : Binds X.K fd ps ds) (hd : Vals dvs ds) (hx : Passes CX X E)
    (ha : PA X (e :: es) t) (hdb : (x == ("__debug__" : Str)) = false := by decide) (he : starEach (e :: es) X.env = (false, eval e X.env) :: starEach es X.env := by rfl) (hpl : (backTo pos (starEach es X.env)).any (·.1) = false := by rfl) :
    PE X (.Call (.Name x p) (e :: es) [] pos) (tCall sp dvs E t) := by
  intro pins s σ H Q I h
  refine wpAny_Call_Name_kw (ld_glob I hg hm ?_ hdb)
  refine PySem.W.callWith_K (h₀ := X.base) I.ok.mod.kin hk (thn (ha pos pins s σ H _ I h) fun us s1 ⟨vs, H1, I1, r, q⟩ => ⟨I1.kIn, ?_⟩) he hpl
  exact run_fn F hr hb hd hx I1 r q
end
def PK (X : Cx) (kws : List Keyword) (t : TA) : Prop :=
  ∀ (pos : Pos) (pins : List (Addr × Obj)) (s : Shared) (σ : St) (H : Hp) (Q : List V → Hp → Prop), Inv X pins σ H s → t σ H Q → wpAny (model X.prog X.w) X.A (evalAll ((backToKw pos (keywordEach kws X.env)).map (·.2))) (AP X pins σ Q) X.xe s
section
variable {X : Cx} {CX : CXT} {k : Nat} {f C : Addr} {fd : FuncData} {ps ks : List Str} {sp : Sp} {E : XK} {x m : Str} {p pos apos kpos : Pos} {e o : Expr} {es : List Expr} {kws : List Keyword} {te ta : TE} {t tk : TA} {nm : Option Str}
theorem pk_nil : PK X [] tNil := fun _ _ _ _ H Q I h => wpAny_evalAll_nil ⟨[], H, I, .nil, h⟩
theorem pk_cons (ha : PE X e te) (hr : PK X kws t) : PK X (⟨nm, e, kpos⟩ :: kws) (tCons te t) := by
  intro pos pins s σ H Q I h
  show wpAny _ _ (evalAll ((do let v ← eval e X.env; standAt pos; pure v) :: (backToKw pos (keywordEach kws X.env)).map (·.2))) _ _ s
  refine wpAny_evalAll_cons (wpAny_bind (thn (ha pins s σ H _ I h) fun u s1 ⟨x, H1, I1, r1, q1⟩ => wpAny_bind (wpAny_standAt (wpAny_pure ?_))))
  exact thn (hr pos pins s1 σ H1 _ I1 q1) fun us s2 ⟨xs, H2, I2, r2, q2⟩ => ⟨x :: xs, H2, I2, .cons r1 r2, q2⟩
variable {g : List Value → List Value → List Value} {gV : List V → List V → List V}
end
structure FnScope (N P : List Str) (sc : Scope) : Prop where
  kind : sc.kind = .function
  co : sc.isCoroutine = false
  gen : sc.isGenerator = false
  nd : N.Nodup
  pre : N.take P.length = P
  par : ∀ x ∈ P, sc.names.lookup x = some .local ∨ sc.names.lookup x = some .cell
  nofree : ∀ y ∈ sc.names, y.2 ≠ .free
theorem bindL_out {kindOf : Str → Option NameKind} {x : Str} : ∀ {binds : List (Str × Value)} {m : Str → Option Value}, (∀ v, (x, v) ∉ binds) → bindL kindOf binds m x = m x
  | [], _, _ => rfl
  | (n, v) :: r, m, h => by
    unfold bindL
    rw [bindL_out fun w hw => h w (List.mem_cons_of_mem _ hw)]
    split
    · have : x ≠ n := by rintro rfl; exact h v List.mem_cons_self
      simp [this]
    · rfl
theorem bindC_out {kindOf : Str → Option NameKind} {x : Str} : ∀ {binds : List (Str × Value)} {m : Str → Option Value}, (∀ v, (x, v) ∉ binds) → bindC kindOf binds m x = m x
  | [], _, _ => rfl
  | (n, v) :: r, m, h => by
    unfold bindC
    rw [bindC_out fun w hw => h w (List.mem_cons_of_mem _ hw)]
    split
    · rfl
    · have : x ≠ n := by rintro rfl; exact h v List.mem_cons_self
      simp [this]
theorem bindL_get {kindOf : Str → Option NameKind} {x : Str} {v : Value} : ∀ {P : List Str} {vs : List Value} {i : Nat} {m : Str → Option Value}, P.Nodup → P[i]? = some x → vs[i]? = some v → kindOf x = some .local →
    bindL kindOf (P.zip vs) m x = some v
  | [], _, _, _, _, h, _, _ => by simp at h
  | _ :: _, [], _, _, _, _, h, _ => by simp at h
  | p :: P, w :: vs, 0, m, nd, h1, h2, hk => by
    simp at h1 h2; subst h1; subst h2
    show bindL kindOf ((p, w) :: P.zip vs) m p = _
    unfold bindL
    rw [bindL_out fun v hv => (List.nodup_cons.mp nd).1 (List.of_mem_zip hv).1, if_pos hk]
    simp
  | p :: P, w :: vs, i + 1, m, nd, h1, h2, hk => by
    show bindL kindOf ((p, w) :: P.zip vs) m x = _
    unfold bindL
    exact bindL_get (i := i) (List.nodup_cons.mp nd).2 (by simpa using h1) (by simpa using h2) hk
theorem bindC_get {kindOf : Str → Option NameKind} {x : Str} {v : Value} : ∀ {P : List Str} {vs : List Value} {i : Nat} {m : Str → Option Value}, P.Nodup → P[i]? = some x → vs[i]? = some v → kindOf x ≠ some .local →
    bindC kindOf (P.zip vs) m x = some v
  | [], _, _, _, _, h, _, _ => by simp at h
  | _ :: _, [], _, _, _, _, h, _ => by simp at h
  | p :: P, w :: vs, 0, m, nd, h1, h2, hk => by
    simp at h1 h2; subst h1; subst h2
    show bindC kindOf ((p, w) :: P.zip vs) m p = _
    unfold bindC
    rw [bindC_out fun v hv => (List.nodup_cons.mp nd).1 (List.of_mem_zip hv).1, if_neg hk]
    simp
  | p :: P, w :: vs, i + 1, m, nd, h1, h2, hk => by
    show bindC kindOf ((p, w) :: P.zip vs) m x = _
    unfold bindC
    exact bindC_get (i := i) (List.nodup_cons.mp nd).2 (by simpa using h1) (by simpa using h2) hk
def start (N : List Str) (vs : List V) : St := vs.map some ++ List.replicate (N.length - vs.length) none
def cxOf (CX : CXT) (P : Program) (w : World) (K : PySem.W.Frag) (mg : Str → Option Value) (base : Heap) (N : List Str) (qual : Str) (scope : Scope) (f : Addr) (cd : Value) (A : Around) (outer : List Env) (s : Shared) (H : Hp) (E : XK) : Cx where
  prog := P
  w := w
  K := K
  mg := mg
  base := base
  A := A.deeper (envOfC qual scope s.heap.objs.size f cd)
  N := N
  s₀ := s
  H₀ := H
  env := envOfC qual scope s.heap.objs.size f cd
  outer := outer
  stack := envOfC qual scope s.heap.objs.size f cd :: outer
  ex := []
  calm := true
  fn := fun _ => true
  pn := []
  xe := fun e s' => wpAny (model P w) (A.deeper (envOfC qual scope s.heap.objs.size f cd)) (leaving (envOfC qual scope s.heap.objs.size f cd) e) (fun _ s'' => CX outer H s E e s'') (fun e' s'' => CX outer H s E e' s'') s'
theorem cell_has {sc : Scope} {n : Nat} {x : Str} (h : sc.names.lookup x = some .cell) : ∃ c, (cellsFrom n sc.names []).lookup x = some c := by
  have q := PySem.W.cellsFrom_some sc.names n [] (.inl h)
  exact Option.isSome_iff_exists.mp q
theorem inv_start {CX : CXT} {P : Program} {w : World} {K : PySem.W.Frag} {mg : Str → Option Value} {base : Heap} {N ps : List Str} {qual : Str} {scope : Scope} {f : Addr} {cd : Value} {A : Around} {outer : List Env} {s s1 : Shared} {H : Hp} {E : XK} {us : List Value} {vs : List V}
    (S : FnScope N ps scope) (hd : A.handled = none) (e0 : Env0 P w K mg base A outer s H) (hl : vs.length = ps.length) (r : Vals vs us)
    (x : InCallC s s.heap.objs.size (bindL (envOfC qual scope s.heap.objs.size f cd).kindOf (ps.zip us) fun _ => none) (cellsFrom (s.heap.objs.size + 1) scope.names []) (bindC (envOfC qual scope s.heap.objs.size f cd).kindOf (ps.zip us) fun _ => none) s1) :
    Inv (cxOf CX P w K mg base N qual scope f cd A outer s H E) [] (start N vs) H s1 := by
  have hpl : ps.length ≤ N.length := by have := congrArg List.length S.pre; rw [List.length_take] at this; omega
  obtain ⟨h1, tk, rfl, hk⟩ := x.done
  have noA : ∀ b : Addr, b ∉ (cxOf CX P w K mg base N qual scope f cd A outer s H E).ex := fun b z => absurd (show b ∈ ([] : List Addr) from z) (by simp)
  refine ⟨⟨e0.mod, S.kind, rfl, rfl, Nat.le_refl _, fun y z c h1 h2 => ?_, fun y hy => ?_, fun y c _ h => ?_, fun _ => hd, Around.frames_deeper e0.frames, .inr ⟨rfl, rfl⟩, fun b z => absurd z (noA b), e0.bs, e0.bsz, fun b _ _ => noA b, fun b z => absurd z (noA b), e0.funs, e0.frf⟩,
    rfl, e0.bare, Un.kept hk, ⟨_, x.toInCall.ns, fun i y v h1 h2 h3 => ?_⟩, fun y c h => ⟨_, x.cell y c h⟩, e0.hok.fresh (Nat.le_refl _), fun y c h => ?_, fun p hp => absurd (show p ∈ ([] : List (Addr × Obj)) from hp) (by simp), e0.hok.kept hk, ?_⟩
  · exact name_of_addr x.apart (PySem.mem_of_lookup h1) (PySem.mem_of_lookup h2)
  · have hy : scope.names.lookup y = some .cell ∨ scope.names.lookup y = some .free := hy
    rcases hy with hy | hy
    · exact cell_has hy
    · exact absurd rfl (S.nofree _ (PySem.mem_of_lookup hy))
  · exact Nat.le_of_lt (x.above y c (PySem.mem_of_lookup h))
  · have hi : i < vs.length := by
      unfold start at h2
      by_cases hi : i < vs.length
      · exact hi
      · rw [List.getElem?_append_right (by simpa using hi)] at h2
        rw [List.getElem?_replicate] at h2
        split at h2 <;> cases h2
    have ha : vs[i]? = some v := by
      unfold start at h2
      rw [List.getElem?_append_left (by simpa using hi), List.getElem?_map] at h2
      cases e : vs[i]? with
      | none => rw [e] at h2; cases h2
      | some a => rw [e] at h2; cases h2; rfl
    obtain ⟨u, hu, rv⟩ := r.get ha
    have hp : ps[i]? = some y := by
      rw [← S.pre, List.getElem?_take_of_lt (by omega)]; exact h1
    have ndP : ps.Nodup := by rw [← S.pre]; exact S.nd.sublist (List.take_sublist _ _)
    refine ⟨u, rv, ?_⟩
    rcases S.par y (List.mem_of_getElem? hp) with k | k
    · exact .inl ⟨k, bindL_get ndP hp hu k⟩
    · obtain ⟨c, e⟩ := cell_has (n := s.heap.objs.size + 1) k
      refine .inr ⟨.inl k, c, e, ?_⟩
      have q := x.cell y c e
      rw [bindC_get ndP hp hu (by show scope.names.lookup y ≠ _; rw [k]; decide)] at q
      exact q
  · exact e0.hok.fresh (Nat.le_of_lt (x.above y c (PySem.mem_of_lookup h)))
  · unfold start
    show _ = N.length
    rw [List.length_append, List.length_map, List.length_replicate]
    omega
theorem fn_of {CX : CXT} {P : Program} {w : World} {K : PySem.W.Frag} {mg : Str → Option Value} {base : Heap} {k : Nat} {f : Addr} {name qual : Str} {params : Arguments} {body : List Stmt} {scope : Scope} {dV kV doc pm cdv ct oc : Value} {an od : Option Addr}
    {osl : Array (Option Value)} {N ps : List Str} {sp : Sp} (lk : K.lookup f = some ⟨oc, od, .func (PySem.W.fnOf name qual params body scope dV kV doc pm an cdv ct), osl⟩) (hcd : PySem.W.codeIn K cdv qual = true) (S : FnScope N ps scope)
    (len : ∀ vs H Q E, sp vs H Q E → vs.length = ps.length)
    (hbody : ∀ (A : Around) (outer : List Env) (s : Shared) (H : Hp) (vs : List V) (Q : VK) (E : XK), Room k (A.deeper (envOfC qual scope s.heap.objs.size f cdv)) → sp vs H Q E →
      ∃ t, PSs (cxOf CX P w K mg base N qual scope f cdv A outer s H E) body t ∧ t { nx := fun _ H' => Q .non H', rt := Q } (start N vs) H) :
    FnOk P w K mg base CX (k + 1) f (PySem.W.fnOf name qual params body scope dV kV doc pm an cdv ct) ps sp := by
  refine ⟨len, fun A outer s H args us vs Q E hr e0 hb r hsp => ?_⟩
  have hl := len _ _ _ _ hsp
  have KX : K.In s.heap := e0.mod.kin.keeps fun b o e => (e0.bs b o e).1
  have lim : s.heap.NoLimit := e0.mod.nolimit.keeps fun b o e => (e0.bs b o e).1
  have hkind : ∀ y ∈ ps.zip us, scope.names.lookup y.1 = some .local ∨ (scope.names.lookup y.1 = some .cell ∧ ((cellsFrom (s.heap.objs.size + 1) scope.names []).lookup y.1).isSome = true) := fun ⟨n, v⟩ hy => by
    rcases S.par n (List.of_mem_zip hy).1 with q | q
    · exact .inl q
    · exact .inr ⟨q, PySem.W.cellsFrom_some _ _ _ (.inl q)⟩
  refine codeAny_call_function hr.depth (KX _ _ lk) rfl S.co S.gen rfl (PySem.W.codeRec_of KX hcd) (hb _ _ _ _ ?_)
  refine wpAny_newFunctionEnv_cells S.kind hkind fun env he s1 x => ?_
  subst he
  refine ⟨lim.keeps x.toInCall.keep, codeAny_func ?_⟩
  obtain ⟨t, ht, hq⟩ := hbody A outer s H vs Q E (hr.deeper _) hsp
  have I : Inv (cxOf CX P w K mg base N qual scope f cdv A outer s H E) [] (start N vs) H s1 := inv_start S hr.hd e0 hl r x
  refine wpAny_mono (ht [] s1 (start N vs) H _ I hq) (fun fl s' hs => ?_) fun e s' hs => hs
  have fin : ∀ {σ' : St} {H' : Hp} {v : V} {u : Value}, Inv (cxOf CX P w K mg base N qual scope f cdv A outer s H E) [] σ' H' s' → RelV v u → Q v H' → CE outer P w H s Q u s' :=
    fun {σ' H' v u} J rv q => ⟨v, H', J.os, J.bare, J.base, J.hok, rv, q⟩
  cases fl with
  | ret u =>
    obtain ⟨v, σ', H', J, rv, q⟩ := hs
    exact fin J rv q
  | next =>
    obtain ⟨σ', H', J, q⟩ := hs
    exact fin (v := V.non) (u := Value.none) J rfl q
  | brk =>
    obtain ⟨_, _, _, q⟩ := hs
    exact False.elim q
  | cont =>
    obtain ⟨_, _, _, q⟩ := hs
    exact False.elim q
end L2
namespace L2
open PySem PySem.Spec PyProof.Rows
section
variable {X : Cx} {x : Str} {p pos : Pos} {e : Expr} {es : List Expr} {t : TA} {id T : String} {r : List V → Hp → VK → Prop}
def tCB (r : List V → Hp → VK → Prop) (t : TA) : TE := fun σ H Q => t σ H fun vs H1 => r vs H1 Q
theorem pe_callB (hc : CallR X (.builtin id) r) (hg : Gl X x) (hm : X.mg x = none) (hv : bootBuiltins x = some (.builtin id)) (ha : PA X (e :: es) t) (hn : x ≠ "__name__" := by decide) (hdb : (x == ("__debug__" : Str)) = false := by decide)
    (he : starEach (e :: es) X.env = (false, eval e X.env) :: starEach es X.env := by rfl) (hpl : (backTo pos (starEach es X.env)).any (·.1) = false := by rfl) : PE X (.Call (.Name x p) (e :: es) [] pos) (tCB r t) := by
  intro pins s σ H Q I h
  refine wpAny_Call_Name_kw (ld_blt I hg hm hv ?_ hn hdb)
  exact PyProof.Rows.callWith_builtin1 (thn (ha pos pins s σ H _ I h) fun us s1 ⟨vs, H1, I1, r1, q1⟩ => hc pins s1 σ H1 vs us Q I1 r1 q1) he hpl
theorem pe_callTy (hc : CallR X (.type T) r) (hg : Gl X x) (hm : X.mg x = none) (hv : bootBuiltins x = some (.type T)) (ha : PA X (e :: es) t) (hn : x ≠ "__name__" := by decide) (hdb : (x == ("__debug__" : Str)) = false := by decide)
    (he : starEach (e :: es) X.env = (false, eval e X.env) :: starEach es X.env := by rfl) (hpl : (backTo pos (starEach es X.env)).any (·.1) = false := by rfl) : PE X (.Call (.Name x p) (e :: es) [] pos) (tCB r t) := by
  intro pins s σ H Q I h
  refine wpAny_Call_Name_kw (ld_blt I hg hm hv ?_ hn hdb)
  exact PyProof.Rows.callWith_type1 (thn (ha pos pins s σ H _ I h) fun us s1 ⟨vs, H1, I1, r1, q1⟩ => hc pins s1 σ H1 vs us Q I1 r1 q1) he hpl
end
end L2
namespace HT
open PySem PyProof.Rows
theorem rcLt_int (A : Around) (s : Shared) (a : Int) (t : Tok) (c : Int) (u : Tok) (prog : Program) (w : World) (E : Value → Shared → Prop) (Q : Value → Shared → Prop) (h : Q (.bool (decide (a < c))) s) :
    wpAny (model prog w) A (richCompare .Lt (.int a t) (.int c u)) Q E s :=
  (PyProof.Rows.lt_int h : wpAny (model prog w) A (compareOp .Lt (.int a t) (.int c u)) Q E s)
section
open PySem.SeqAt
open PySem.AutoSeq1 (wpAny_loadPart')
open PySem.MeetsSeq PySem.MeetsSeq2 PySem.MeetsSeq3
end
section
variable {prog : Program} {w : World} {A : Around} {E : Value → Shared → Prop} {s : Shared}
def sIx (n d : Nat) : Option Int → Nat
  | none => d
  | some v => if v < 0 then (v + (n : Int)).toNat else min v.toNat n
theorem sIx_le (n d : Nat) (hd : d ≤ n) (o : Option Int) : sIx n d o ≤ n := by
  cases o with
  | none => exact hd
  | some v =>
    show (if v < 0 then (v + (n : Int)).toNat else min v.toNat n) ≤ n
    by_cases hv : v < 0
    · rw [if_pos hv]; omega
    · rw [if_neg hv]; exact Nat.min_le_right _ _
theorem clip_eq (v : Int) (n d : Nat) : (if v < 0 then max (v + (n : Int)) 0 else min v (n : Int)) = ((sIx n d (some v) : Nat) : Int) := by
  show (if v < 0 then max (v + (n : Int)) 0 else min v (n : Int)) = (((if v < 0 then (v + (n : Int)).toNat else min v.toNat n) : Nat) : Int)
  by_cases hv : v < 0
  · simp only [if_pos hv]; omega
  · simp only [if_neg hv]; omega
theorem adjust_gen (lo hi : Option Int) (n : Nat) : Builtin.Slice.sliceAdjust lo hi 1 (n : Int) = (((sIx n 0 lo : Nat) : Int), ((sIx n n hi : Nat) : Int)) := by
  have h1 : ¬ ((1 : Int) < 0) := by omega
  unfold Builtin.Slice.sliceAdjust
  simp only [h1, if_false]
  refine Prod.ext ?_ ?_
  · cases lo with
    | none => rfl
    | some v => exact clip_eq v n 0
  · cases hi with
    | none => rfl
    | some v => exact clip_eq v n n
theorem places_gen (i j : Nat) : Builtin.Slice.slicePlaces (i : Int) (j : Int) 1 = j - i := by
  unfold Builtin.Slice.slicePlaces
  have h1 : (1 : Int) > 0 := by omega
  simp only [h1, if_true, Int.ediv_one]
  split <;> omega
theorem slicePart_ {v : Value} {o : Option Int} {Q : Option Int → Shared → Prop} (p : IsPart v o) (h : Q o s) : wpAny (model prog w) A (Builtin.Slice.slicePartIndex v) Q E s := by
  cases p with
  | none => exact slicePart_none h
  | int i t => exact slicePart_int h
theorem sliceApplied_gen {sl : Addr} {vl vu : Value} {lo hi : Option Int} {n : Nat} {Q : Int × Int × Nat → Shared → Prop} (hs : s.heap.IsSliceOf sl vl vu .none) (pl : IsPart vl lo) (pu : IsPart vu hi)
    (h : Q (((sIx n 0 lo : Nat) : Int), 1, sIx n n hi - sIx n 0 lo) s) : wpAny (model prog w) A (Builtin.Slice.sliceApplied (.ref sl) (pure (n : Int))) Q E s := by
  obtain ⟨os, hos, hcs, hds⟩ := id hs
  unfold Builtin.Slice.sliceApplied Builtin.Slice.sliceFields
  refine wpAny_bind (wpAny_bind (wpAny_field hos hds (x := vl) rfl (wpAny_bind (wpAny_field hos hds (x := vu) rfl (wpAny_bind (wpAny_field hos hds (x := .none) rfl (wpAny_pure ?_)))))))
  refine wpAny_bind (slicePart_none ?_)
  show wpAny _ _ (if ((1 : Int) == 0) = true then _ else _) _ _ s
  rw [if_neg (by decide)]
  refine wpAny_bind (slicePart_ pl (wpAny_bind (slicePart_ pu (wpAny_bind (wpAny_pure ?_)))))
  show wpAny _ _ (match Builtin.Slice.sliceAdjust lo hi 1 (n : Int) with | (lo, hi) => pure (lo, (1 : Int), Builtin.Slice.slicePlaces lo hi 1)) _ _ s
  rw [adjust_gen lo hi n]
  show wpAny _ _ (pure (((sIx n 0 lo : Nat) : Int), (1 : Int), Builtin.Slice.slicePlaces ((sIx n 0 lo : Nat) : Int) ((sIx n n hi : Nat) : Int) 1)) _ _ s
  rw [places_gen]
  exact wpAny_pure h
theorem pick_gen (xs : Array Value) (i k : Nat) : ((List.range k).filterMap fun (m : Nat) => xs[((i : Int) + (m : Int) * 1).toNat]?).toArray = ((xs.toList.drop i).take k).toArray := by
  have e : (fun (m : Nat) => xs[((i : Int) + (m : Int) * 1).toNat]?) = fun m => xs[i + m]? := by
    funext m
    have : ((i : Int) + (m : Int) * 1).toNat = i + m := by omega
    rw [this]
  rw [e]
  have := pick_run xs i k
  rw [List.filterMap_map] at this
  have e2 : ((fun x => xs[x]?) ∘ fun x => i + x) = fun m => xs[i + m]? := rfl
  rw [e2] at this
  rw [this]
theorem getItem_tuple_cut {t sl : Addr} {items : Array Value} {vl vu : Value} {lo hi : Option Int} {Q : Value → Shared → Prop} (ht : IsTup s.heap t items) (hs : s.heap.IsSliceOf sl vl vu .none) (pl : IsPart vl lo) (pu : IsPart vu hi)
    (hw : ¬ (sIx items.size 0 lo = 0 ∧ sIx items.size items.size hi = items.size))
    (h : Q (.ref s.heap.objs.size) { s with heap := s.heap.push { cls := .type "tuple", data := .seq ((items.toList.drop (sIx items.size 0 lo)).take (sIx items.size items.size hi - sIx items.size 0 lo)).toArray } })
    (hsz : items.size ≤ sizeLine) : wpAny (model prog w) A (getItem (.ref t) (.ref sl)) Q E s := by
  have htake : sizeOk (.seq ((items.toList.drop (sIx items.size 0 lo)).take (sIx items.size items.size hi - sIx items.size 0 lo)).toArray) := by
    show ((items.toList.drop (sIx items.size 0 lo)).take (sIx items.size items.size hi - sIx items.size 0 lo)).toArray.size ≤ sizeLine
    rw [List.size_toArray, List.length_take, List.length_drop, Array.length_toList]
    omega
  have hj : sIx items.size items.size hi ≤ items.size := sIx_le _ _ (Nat.le_refl _) hi
  obtain ⟨os, hos, hcs, hds⟩ := id hs
  have hTs : s.TypeIs (.ref sl) "slice" := ⟨os, hos, hcs⟩
  unfold getItem
  try with_reducible refine wpAny_holding ?_
  first | refine wpAny_bind (wpAny_pure ?_) | skip
  refine wpAny_bind (wpAny_sequenceKey ht.typeIs (by decide) ?_)
  refine wpAny_bind (wpAny_callSpecial?_slot (name := Str.ofString "__getitem__") ht.typeIs PyProof.Rows.slot_tuple_getitem
    (wpAny_call_entry PyProof.Rows.slot_tuple_getitem ht.typeIs entry_tuple_getitem ?_ (args_tuple_getitem _ _)))
  show wpAny _ _ (Builtin.Tuple.tupleItemsOf (.ref t) >>= _) _ _ s
  refine wpAny_bind (tupleItemsOf_ ht ?_)
  refine wpAny_bind (wpAny_typeOf hTs ?_)
  rw [if_pos (by decide)]
  refine wpAny_bind (sliceApplied_gen hs pl pu ?_)
  have hno : ¬ ((((sIx items.size 0 lo : Nat) : Int) == 0 && (1 : Int) == 1 && (sIx items.size items.size hi - sIx items.size 0 lo) == items.size) = true) := by
    intro q
    rw [Bool.and_eq_true, Bool.and_eq_true] at q
    have q1 : ((sIx items.size 0 lo : Nat) : Int) = 0 := eq_of_beq q.1.1
    have q2 : sIx items.size items.size hi - sIx items.size 0 lo = items.size := eq_of_beq q.2
    exact hw ⟨by omega, by omega⟩
  show wpAny _ _ (if (((sIx items.size 0 lo : Nat) : Int) == 0 && (1 : Int) == 1 && (sIx items.size items.size hi - sIx items.size 0 lo) == items.size) = true then _ else _) _ _ s
  rw [if_neg hno, pick_gen]
  first
    | exact wpAny_bind (m := Builtin.Tuple.tupleExact _) (wpAny_newObj_type (wpAny_pure ⟨_, rfl, wpAny_pure h⟩) htake)
    | exact wpAny_bind (m := Builtin.Tuple.tupleExact _) (wpAny_newObj_type (wpAny_bind (wpAny_pure (wpAny_pure ⟨_, rfl, wpAny_pure h⟩))) htake)
    | exact wpAny_bind (wpAny_bind (m := Builtin.Tuple.tupleExact _) (wpAny_newObj_type (wpAny_pure (wpAny_pure ⟨_, rfl, wpAny_pure h⟩)) htake))
    | exact wpAny_bind (wpAny_bind (m := Builtin.Tuple.tupleExact _) (wpAny_newObj_type (wpAny_pure ⟨_, rfl, wpAny_pure h⟩) htake))
end
end HT
namespace L2
open PySem PySem.Spec PyProof.Rows
abbrev TO := St → Hp → (Option Int → Hp → Prop) → Prop
def PO (X : Cx) (e : Option Expr) (t : TO) : Prop :=
  ∀ (pins : List (Addr × Obj)) (s : Shared) (σ : St) (H : Hp) (Q : Option Int → Hp → Prop), Inv X pins σ H s → t σ H Q →
    wpAny (model X.prog X.w) X.A (evalPart e X.env) (fun u s' => ∃ o H', Inv X pins σ H' s' ∧ IsPart u o ∧ Q o H') X.xe s
def tNoPart : TO := fun _ H Q => Q none H
def tPart (t : TE) : TO := fun σ H Q => t σ H fun x H1 => ∃ i, x = .int i ∧ Q (some i) H1
section
variable {X : Cx} {e : Expr} {te : TE} {lo hi : Option Expr} {tl th : TO} {pos p2 : Pos}
theorem po_none : PO X none tNoPart := by
  intro pins s σ H Q I h
  rw [evalPart_none]
  exact wpAny_pure ⟨none, H, I, .none, h⟩
theorem po_some (h : PE X e te) : PO X (some e) (tPart te) := by
  intro pins s σ H Q I hw
  rw [evalPart_some]
  refine thn (h pins s σ H _ I hw) fun u s1 ⟨x, H1, I1, r1, q1⟩ => ?_
  obtain ⟨i, rfl, q⟩ := q1
  obtain ⟨t, rfl⟩ := r1
  exact ⟨some i, H1, I1, .int i t, q⟩
def SlR (X : Cx) (r : V → Option Int → Option Int → Hp → VK → Prop) : Prop :=
  ∀ (pins : List (Addr × Obj)) (s : Shared) (σ : St) (H : Hp) (x : V) (v vl vu : Value) (lo hi : Option Int) (sl : Addr) (Q : VK), Inv X pins σ H s → RelV x v → s.heap.IsSliceOf sl vl vu .none → IsPart vl lo → IsPart vu hi → r x lo hi H Q →
    ∃ T id, typeLookup (.type T) "__getitem__" = pure (some (.builtin id)) ∧ s.TypeIs v T ∧ wpAny (model X.prog X.w) X.A (getItem v (.ref sl)) (EP X pins σ Q) X.xe s
theorem SlR.or {r r' : V → Option Int → Option Int → Hp → VK → Prop} (h : SlR X r) (h' : SlR X r') : SlR X (fun x lo hi H Q => r x lo hi H Q ∨ r' x lo hi H Q) := by
  intro pins s σ H x v vl vu lo hi sl Q I rx hs pl pu q
  rcases q with q | q
  · exact h pins s σ H x v vl vu lo hi sl Q I rx hs pl pu q
  · exact h' pins s σ H x v vl vu lo hi sl Q I rx hs pl pu q
def tSl (r : V → Option Int → Option Int → Hp → VK → Prop) (te : TE) (tl th : TO) : TE := fun σ H Q => te σ H fun x H1 => tl σ H1 fun l H2 => th σ H2 fun u H3 => r x l u H3 Q
theorem pe_slice {r : V → Option Int → Option Int → Hp → VK → Prop} (hr : SlR X r) (he : PE X e te) (hl : PO X lo tl) (hu : PO X hi th) : PE X (.Subscript e (.Slice lo hi none p2) pos) (tSl r te tl th) := by
  intro pins s σ H Q I h
  refine Subscript_ (thn (he pins s σ H _ I h) fun v s1 ⟨x, H1, I1, r1, q1⟩ => ?_)
  refine wpAny_Slice (thn (hl pins s1 σ H1 _ I1 q1) fun vl s2 ⟨l, H2, I2, pl, q2⟩ => thn (hu pins s2 σ H2 _ I2 q2) fun vu s3 ⟨u, H3, I3, pu, q3⟩ => ?_)
  rw [evalPart_none]
  refine wpAny_pure ?_
  have I4 : Inv X pins σ H3 { s3 with heap := s3.heap.push { cls := .type "slice", data := .fields #[vl, vu, .none] } } := I3.kept (t' := s3.toks) fun b ob q => Heap.get?_push_of_some _ q
  obtain ⟨T, id, hT, ht, hg⟩ := hr pins { s3 with heap := s3.heap.push { cls := .type "slice", data := .fields #[vl, vu, .none] } } σ H3 x v vl vu l u s3.heap.objs.size Q I4 r1 (Heap.IsSliceOf.new ..) pl pu q3
  show wpAny (model X.prog X.w) X.A (subscriptTail e (.Slice lo hi none p2) v (.ref s3.heap.objs.size)) (EP X pins σ Q) X.xe { s3 with heap := s3.heap.push { cls := .type "slice", data := .fields #[vl, vu, .none] } }
  exact tail_any (ops := [.ref s3.heap.objs.size, v]) ht hT hg (by with_unfolding_all rfl)
def cutV (xs : List V) (lo hi : Option Int) : List V := (xs.drop (HT.sIx xs.length 0 lo)).take (HT.sIx xs.length xs.length hi - HT.sIx xs.length 0 lo)
theorem cutV_length (xs : List V) (lo hi : Option Int) : (cutV xs lo hi).length ≤ xs.length := by
  unfold cutV
  rw [List.length_take, List.length_drop]
  omega
def rSlT (K : PySem.W.Frag) : V → Option Int → Option Int → Hp → VK → Prop := fun x lo hi H Q => ∃ a xs, x = .ref a ∧ SqT K H a xs ∧
  ¬ (HT.sIx xs.length 0 lo = 0 ∧ HT.sIx xs.length xs.length hi = xs.length) ∧ ∀ p, H p = none → Q (.ref p) (upd H p (.tup (cutV xs lo hi)))
theorem sl_tup : SlR X (rSlT X.K) := by
  intro pins s σ H x v vl vu lo hi sl Q I rx hs pl pu h
  obtain ⟨a, xs, rfl, hx, hw, q⟩ := h
  cases rx
  obtain ⟨its, r, ht, hz⟩ := I.tuple hx
  have hlen : its.toArray.size = xs.length := by rw [List.size_toArray]; exact r.length.symm
  refine ⟨"tuple", _, PyProof.Rows.slot_tuple_getitem.lookup, ht.typeIs, ?_⟩
  refine HT.getItem_tuple_cut ht hs pl pu (by rw [hlen]; exact hw) ?_ (by rw [hlen]; exact hz)
  rw [hlen]
  refine ⟨.ref s.heap.objs.size, _, I.laid (t' := s.toks) (o := .tup (cutV xs lo hi)) (fun b ob q => Heap.get?_push_of_some _ q) (Nat.le_refl _) ?_, rfl, q _ (I.hok.fresh (Nat.le_refl _))⟩
  exact ⟨Nat.le_trans (cutV_length xs lo hi) hz, _, (r.drop (HT.sIx xs.length 0 lo)).take (HT.sIx xs.length xs.length hi - HT.sIx xs.length 0 lo), IsTup.new _ _⟩
end
end L2
namespace L2
open PySem PySem.Spec PyProof.Rows
def ixN (n : Nat) (i : Int) : Option Nat := if 0 ≤ i then (if i < n then some i.toNat else none) else if -(n : Int) ≤ i then some (i + n).toNat else none
def atI {α : Type} (xs : List α) (i : Int) : Option α := (ixN xs.length i).bind fun j => xs[j]?
theorem ixN_seq {n : Nat} {i : Int} {j : Nat} (h : ixN n i = some j) : seqIndex? i n = some j ∧ j < n ∧ -(n : Int) ≤ i ∧ i < n := by
  unfold ixN at h
  by_cases h0 : 0 ≤ i
  · rw [if_pos h0] at h
    by_cases h1 : i < n
    · rw [if_pos h1] at h
      have e : i.toNat = j := Option.some.inj h
      exact ⟨by rw [seqIndex_of h0 h1, e], by omega, by omega, h1⟩
    · rw [if_neg h1] at h; cases h
  · rw [if_neg h0] at h
    by_cases h1 : -(n : Int) ≤ i
    · rw [if_pos h1] at h
      have e : (i + n).toNat = j := Option.some.inj h
      exact ⟨by rw [seqIndex_neg (by omega) h1, e], by omega, h1, by omega⟩
    · rw [if_neg h1] at h; cases h
theorem atI_get {α : Type} {xs : List α} {i : Int} {v : α} (h : atI xs i = some v) : ∃ j, seqIndex? i xs.length = some j ∧ xs[j]? = some v ∧ j < xs.length ∧ -(xs.length : Int) ≤ i ∧ i < xs.length := by
  unfold atI at h
  cases e : ixN xs.length i with
  | none => rw [e] at h; cases h
  | some j =>
    rw [e] at h
    obtain ⟨h1, h2, h3, h4⟩ := ixN_seq e
    exact ⟨j, h1, h, h2, h3, h4⟩
theorem atI_nat {α : Type} {xs : List α} {j : Nat} {v : α} (h : xs[j]? = some v) : atI xs (j : Int) = some v := by
  have hj : j < xs.length := (List.getElem?_eq_some_iff.mp h).1
  have e : ixN xs.length (j : Int) = some j := by
    unfold ixN
    rw [if_pos (by omega), if_pos (by omega)]; simp
  unfold atI; rw [e]; exact h
theorem atI_last {α : Type} (xs : List α) (v : α) : atI (xs ++ [v]) (-1) = some v := by
  have hl : (xs ++ [v]).length = xs.length + 1 := by simp
  have e : ixN (xs ++ [v]).length (-1) = some xs.length := by
    unfold ixN
    rw [hl, if_neg (by decide), if_pos (by omega)]
    congr 1
    omega
  unfold atI
  rw [e]
  show (xs ++ [v])[xs.length]? = some v
  simp
def PlainIx (b : Expr) : Prop := ∀ o i, subscripted b false o i = operate [o, i] (getItem o i)
def IxR (X : Cx) (r : R2) : Prop :=
  ∀ (value slice : Expr) (pins : List (Addr × Obj)) (s : Shared) (σ : St) (H : Hp) (x y : V) (v u : Value) (Q : VK), Inv X pins σ H s → RelV x v → RelV y u → r x y H Q →
    subscripted slice false v u = operate [v, u] (getItem v u) → wpAny (model X.prog X.w) X.A (subscriptTail value slice v u) (EP X pins σ Q) X.xe s
def MtR (X : Cx) (id : String) (r : V → List V → Hp → VK → Prop) : Prop :=
  ∀ (pins : List (Addr × Obj)) (s : Shared) (σ : St) (H : Hp) (x : V) (xs : List V) (v : Value) (us : List Value) (Q : VK), Inv X pins σ H s → RelV x v → Vals xs us → r x xs H Q →
    wpAny (model X.prog X.w) X.A (call (.builtin id) (v :: us)) (EP X pins σ Q) X.xe s
section
variable {X : Cx} {a b : Expr} {ta tb : TE} {pos : Pos}
theorem IxR.or {r r' : R2} (h : IxR X r) (h' : IxR X r') : IxR X (fun x y H Q => r x y H Q ∨ r' x y H Q) := by
  intro value slice pins s σ H x y v u Q I rx ry q hs
  rcases q with q | q
  · exact h value slice pins s σ H x y v u Q I rx ry q hs
  · exact h' value slice pins s σ H x y v u Q I rx ry q hs
theorem MtR.or {id : String} {r r' : V → List V → Hp → VK → Prop} (h : MtR X id r) (h' : MtR X id r') : MtR X id (fun x xs H Q => r x xs H Q ∨ r' x xs H Q) := by
  intro pins s σ H x xs v us Q I rx rs q
  rcases q with q | q
  · exact h pins s σ H x xs v us Q I rx rs q
  · exact h' pins s σ H x xs v us Q I rx rs q
theorem pe_ix {r : R2} (hr : IxR X r) (ha : PE X a ta) (hb : PE X b tb) (hs : PlainIx b) : PE X (.Subscript a b pos) (tOp r ta tb) := by
  intro pins s σ H Q I h
  exact Subscript_ (binT ha hb I h fun v u s2 x y H2 I2 rx ry q => hr a b pins s2 σ H2 x y v u Q I2 rx ry q (hs _ _))
def rIxL (K : PySem.W.Frag) : R2 := fun x y H Q => ∃ p xs i v, x = .ref p ∧ y = .int i ∧ SqL K H p xs ∧ atI xs i = some v ∧ Q v H
def rIxT (K : PySem.W.Frag) : R2 := fun x y H Q => ∃ p xs i v, x = .ref p ∧ y = .int i ∧ SqT K H p xs ∧ atI xs i = some v ∧ Q v H
def rIxS : R2 := fun x y H Q => ∃ z i c, x = .str z ∧ y = .int i ∧ z.length ≤ sizeLine ∧ atI z.cps.toList i = some c ∧ Q (.str ⟨#[c]⟩) H
theorem ix_list : IxR X (rIxL X.K) := by
  intro value slice pins s σ H x y v u Q I rx ry h hs
  obtain ⟨p, xs, i, z, rfl, rfl, hq, he, q⟩ := h
  cases rx
  obtain ⟨t, rfl⟩ := ry
  obtain ⟨its, r, pl, hz⟩ := I.list hq
  obtain ⟨j, h1, h2, h3, h4, h5⟩ := atI_get he
  obtain ⟨w, ew, rw'⟩ := r.get h2
  have hl := r.length
  have hn := line63
  have fin : EP X pins σ Q w s := ⟨z, H, I, rw', q⟩
  by_cases h0 : 0 ≤ i
  · have hj : i.toNat = j := by
      rw [seqIndex_of h0 h5] at h1
      exact Option.some.inj h1
    exact item_listR pl.isList h0 (by omega) (by rw [hj]; simpa using ew) fin hs
  · have hj : (i + (its.toArray.size : Int)).toNat = j := by
      rw [seqIndex_neg (by omega) h4] at h1
      rw [List.size_toArray, ← hl]
      exact Option.some.inj h1
    exact subscriptTail_builtinR (x := w) pl.isList.typeIs slot_list_getitem.lookup
      (wpAny_getItem_list_neg (Q := fun r s' => r = w ∧ EP X pins σ Q r s') pl.isList (by omega) (by rw [List.size_toArray] <;> omega) (by omega) (by rw [hj]; simpa using ew) ⟨rfl, fin⟩) hs
theorem ix_tup : IxR X (rIxT X.K) := by
  intro value slice pins s σ H x y v u Q I rx ry h hs
  obtain ⟨p, xs, i, z, rfl, rfl, hq, he, q⟩ := h
  cases rx
  obtain ⟨t, rfl⟩ := ry
  obtain ⟨its, r, pl, hz⟩ := I.tuple hq
  obtain ⟨j, h1, h2, h3, h4, h5⟩ := atI_get he
  obtain ⟨w, ew, rw'⟩ := r.get h2
  have hl := r.length
  have hn := line63
  have fin : EP X pins σ Q w s := ⟨z, H, I, rw', q⟩
  exact subscriptTail_builtinR (x := w) pl.typeIs slot_tuple_getitem.lookup
    (getItem_tuple (j := j) (Q := fun r s' => r = w ∧ EP X pins σ Q r s') pl (by omega) (by omega) (by rw [List.size_toArray, ← hl]; exact h1) (by simpa using ew) ⟨rfl, fin⟩) hs
theorem ix_str : IxR X rIxS := by
  intro value slice pins s σ H x y v u Q I rx ry h hs
  obtain ⟨z, i, c, rfl, rfl, hz, he, q⟩ := h
  obtain ⟨t, rfl⟩ := rx
  obtain ⟨t', rfl⟩ := ry
  obtain ⟨j, h1, h2, h3, h4, h5⟩ := atI_get he
  have hl : z.cps.toList.length = z.length := by simp [Str.length]
  rw [hl] at h1 h4 h5
  have hn := line63
  exact tail_any (typeIs_str s z t) slot_str_getitem.lookup (getItem_str (c := c) (by
    have e1 : decide (i < -(2 ^ 63 : Int)) = false := decide_eq_false (by omega)
    have e2 : decide (i ≥ 2 ^ 63) = false := decide_eq_false (by omega)
    rw [e1, e2, Bool.or_false]) (by rw [h1]; simpa using h2) ⟨.str ⟨#[c]⟩, H, I.tok _, ⟨_, rfl⟩, q⟩) hs
def rIx (K : PySem.W.Frag) : R2 := fun x y H Q => rIxL K x y H Q ∨ rIxT K x y H Q ∨ rIxS x y H Q
theorem ix_seq : IxR X (rIx X.K) := ix_list.or (ix_tup.or ix_str)
theorem mapSeq_set (its : List Value) (n j : Nat) (u : Value) : Obj.mapSeq (·.setIfInBounds j u) { cls := .type "list", data := .seq its.toArray n } = { cls := .type "list", data := .seq (its.set j u).toArray n } := by
  simp [Obj.mapSeq]
theorem Inv.lst {pins : List (Addr × Obj)} {σ : St} {H : Hp} {s : Shared} {p : Addr} {xs : List V} (I : Inv X pins σ H s) (h : H p = some (.lst xs)) :
    ∃ (its : List Value) (n : Nat), Vals xs its ∧ s.heap.get? p = some { cls := .type "list", data := .seq its.toArray n } ∧ xs.length ≤ sizeLine := by
  obtain ⟨z, its, n, r, e⟩ := I.hok p _ h
  exact ⟨its, n, r, e, z⟩
theorem Inv.lstUpd {pins : List (Addr × Obj)} {σ : St} {H : Hp} {s : Shared} {p : Addr} {xs ys : List V} {its its' : List Value} {n n' : Nat} {f : Obj → Obj} (I : Inv X pins σ H s) (h : H p = some (.lst xs))
    (ho : s.heap.get? p = some { cls := .type "list", data := .seq its.toArray n }) (hf : f { cls := .type "list", data := .seq its.toArray n } = { cls := .type "list", data := .seq its'.toArray n' }) (r : Vals ys its') (hz : ys.length ≤ sizeLine) (t : Nat) :
    Inv X pins σ (upd H p (.lst ys)) { s with heap := s.heap.update p f, toks := t } := by
  have e : (s.heap.update p f).get? p = some { cls := .type "list", data := .seq its'.toArray n' } := by
    rw [Heap.get?_update_self f ho (by rw [hf] <;> rfl), hf]
  refine I.write (x := p) (e := p) (by rw [h]; trivial) (.inl rfl) (fun b u hb q => (Heap.get?_update_other _ _ (Ne.symm hb)).trans q) ⟨_, e⟩ ?_
  exact ⟨hz, its', n', r, e⟩
def rSetL : V → V → V → Hp → (Hp → Prop) → Prop := fun o i v H Q => ∃ p xs k j, o = .ref p ∧ i = .int k ∧ H p = some (.lst xs) ∧ ixN xs.length k = some j ∧ Q (upd H p (.lst (xs.set j v)))
theorem set_list : PSet X rSetL := by
  intro pins s σ H o i v ov iv u Q I ro ri rv h
  obtain ⟨p, xs, k, j, rfl, rfl, hp, hj, q⟩ := h
  cases ro
  obtain ⟨t, rfl⟩ := ri
  obtain ⟨its, n, r, ho, hz⟩ := I.lst hp
  obtain ⟨h1, h2, h3, h4⟩ := ixN_seq hj
  have hl := r.length
  have hn := line63
  have I' : Inv X pins σ (upd H p (.lst (xs.set j v))) { s with heap := s.heap.update p (Obj.mapSeq (·.setIfInBounds j u)) } :=
    I.lstUpd hp ho (mapSeq_set its n j u) (r.set rv j) (by rw [List.length_set]; exact hz) s.toks
  by_cases h0 : 0 ≤ k
  · have hk : k.toNat = j := by
      rw [seqIndex_of h0 h4] at h1
      exact Option.some.inj h1
    exact PySem.W.ki_setAt ho h0 (by omega) (by rw [List.size_toArray, ← hl]; exact h4) (by rw [hk]; exact ⟨_, I', q⟩)
  · have hk : (k + (its.toArray.size : Int)).toNat = j := by
      rw [seqIndex_neg (by omega) h3] at h1
      rw [List.size_toArray, ← hl]
      exact Option.some.inj h1
    exact PySem.W.ki_setBack ho (by omega) (by rw [List.size_toArray, ← hl]; exact h3) (by omega) (by rw [hk]; exact ⟨_, I', q⟩)
theorem slice_bounds (lo hi : Option Int) (n : Nat) : (sliceBounds lo hi none n).1 = ((HT.sIx n 0 lo : Nat) : Int) ∧ (sliceBounds lo hi none n).2.1 = ((HT.sIx n n hi : Nat) : Int) ∧ (sliceBounds lo hi none n).2.2 = 1 := by
  refine ⟨?_, ?_, rfl⟩
  · cases lo with
    | none => simp [sliceBounds, HT.sIx]
    | some i =>
      simp only [sliceBounds, HT.sIx, Option.getD_none, show (1 : Int) > 0 by decide, if_true]
      by_cases h : i < 0
      · simp only [h, if_true] <;> omega
      · simp only [h, if_false] <;> omega
  · cases hi with
    | none => simp [sliceBounds, HT.sIx]
    | some i =>
      simp only [sliceBounds, HT.sIx, Option.getD_none, show (1 : Int) > 0 by decide, if_true]
      by_cases h : i < 0
      · simp only [h, if_true] <;> omega
      · simp only [h, if_false] <;> omega
theorem slicePick_cut (its : List Value) (lo hi : Option Int) : slicePick its.toArray lo hi none = ((its.drop (HT.sIx its.length 0 lo)).take (HT.sIx its.length its.length hi - HT.sIx its.length 0 lo)).toArray := by
  obtain ⟨h1, h2, h3⟩ := slice_bounds lo hi its.toArray.size
  unfold slicePick
  rw [h1, h2, h3]
  simp only [sliceRange_one, pick_run, List.size_toArray] <;> rfl
def rSlL (K : PySem.W.Frag) : V → Option Int → Option Int → Hp → VK → Prop := fun x lo hi H Q => ∃ a xs, x = .ref a ∧ SqL K H a xs ∧ ∀ p, H p = none → Q (.ref p) (upd H p (.lst (cutV xs lo hi)))
theorem sl_list : SlR X (rSlL X.K) := by
  intro pins s σ H x v vl vu lo hi sl Q I rx hs pl pu h
  obtain ⟨a, xs, rfl, hx, q⟩ := h
  cases rx
  obtain ⟨its, r, ht, hz⟩ := I.list hx
  have hlen := r.length
  refine ⟨"list", _, slot_list_getitem.lookup, ht.isList.typeIs, ?_⟩
  refine wpAny_getItem_list_slice ht.isList hs pl pu .none (by simp) ?_ (by rw [List.size_toArray] <;> omega)
  rw [slicePick_cut, ← hlen]
  refine ⟨.ref s.heap.objs.size, _, I.laid (t' := s.toks) (o := .lst (cutV xs lo hi)) (fun b ob q => Heap.get?_push_of_some _ q) (Nat.le_refl _) ?_, rfl, q _ (I.hok.fresh (Nat.le_refl _))⟩
  exact ⟨Nat.le_trans (cutV_length xs lo hi) hz, _, 0, (r.drop (HT.sIx xs.length 0 lo)).take (HT.sIx xs.length xs.length hi - HT.sIx xs.length 0 lo), Heap.get?_push_size _ rfl⟩
def flatV : V → Bool
  | .non => true
  | .bl _ => true
  | .int _ => true
  | .str _ => true
  | _ => false
def eqV : V → V → Bool
  | .non, .non => true
  | .bl a, .bl b => a == b
  | .bl a, .int b => (if a then 1 else 0) == b
  | .int a, .bl b => a == (if b then 1 else 0)
  | .int a, .int b => a == b
  | .str a, .str b => a == b
  | _, _ => false
theorem CallR.or {f : Value} {r r' : List V → Hp → VK → Prop} (h : CallR X f r) (h' : CallR X f r') : CallR X f (fun xs H Q => r xs H Q ∨ r' xs H Q) := by
  intro pins s σ H xs us Q I rs q
  rcases q with q | q
  · exact h pins s σ H xs us Q I rs q
  · exact h' pins s σ H xs us Q I rs q
theorem call_list_of : CallR X (.type "list") (fun xs H Q => ∃ p ys, xs = [.ref p] ∧ (SqL X.K H p ys ∨ SqT X.K H p ys) ∧ ∀ l, H l = none → Q (.ref l) (upd H l (.lst ys))) := by
  intro pins s σ H xs us Q I r h
  obtain ⟨p, ys, rfl, hq, q⟩ := h
  obtain ⟨u, rfl, rx⟩ := vals1 r
  cases rx
  have fin : ∀ (its : List Value), Vals ys its → ys.length ≤ sizeLine → ∀ (h' : Heap) (c' : Nat), (∀ b o', s.heap.get? b = some o' → h'.get? b = some o') →
      h'.get? s.heap.objs.size = some { cls := .type "list", dict := none, data := .seq its.toArray c', slots := #[] } → EP X pins σ Q (.ref s.heap.objs.size) { s with heap := h' } := fun its r' hz h' c' kp e =>
    ⟨.ref s.heap.objs.size, _, I.laid (t' := s.toks) kp (Nat.le_refl _) (show ObjOk X.prog X.w _ h' _ (.lst ys) from ⟨hz, its, c', r', e⟩), rfl, q _ (I.hok.fresh (Nat.le_refl _))⟩
  rcases hq with hq | hq
  · obtain ⟨its, r', pl, hz⟩ := I.list hq
    have hlen := r'.length
    obtain ⟨o, ho, hc, n, hd⟩ := pl.isList
    exact call_list_seq p (.inl rfl) ho hc hd (fun h' c' kp e => fin its r' hz h' c' kp e) (by simp only [List.size_toArray] <;> omega)
  · obtain ⟨its, r', pl, hz⟩ := I.tuple hq
    have hlen := r'.length
    obtain ⟨o, ho, hc, n, hd⟩ := pl
    exact call_list_seq p (.inr rfl) ho hc hd (fun h' c' kp e => fin its r' hz h' c' kp e) (by simp only [List.size_toArray] <;> omega)
theorem call_tuple_of : CallR X (.type "tuple") (fun xs H Q => ∃ p ys, xs = [.ref p] ∧ ((SqL X.K H p ys ∧ ∀ l, H l = none → Q (.ref l) (upd H l (.tup ys))) ∨ (SqT X.K H p ys ∧ Q (.ref p) H))) := by
  intro pins s σ H xs us Q I r h
  obtain ⟨p, ys, rfl, h⟩ := h
  obtain ⟨u, rfl, rx⟩ := vals1 r
  cases rx
  rcases h with ⟨hq, q⟩ | ⟨hq, q⟩
  · obtain ⟨its, r', pl, hz⟩ := I.list hq
    have hlen := r'.length
    refine call_tuple_list pl.isList (fun h' kp => ?_) (by simp only [List.size_toArray] <;> omega)
    have I1 : Inv X pins σ H { s with heap := h' } := I.kept (t' := s.toks) kp
    have I2 : Inv X pins σ (upd H h'.objs.size (.tup ys)) { s with heap := h'.push { cls := .type "tuple", data := .seq its.toArray } } :=
      I1.laid (t' := s.toks) (fun b o e => Heap.get?_push_of_some _ e) (Nat.le_refl _) (show ObjOk X.prog X.w _ _ _ (.tup ys) from ⟨hz, its, r', IsTup.new _ _⟩)
    exact ⟨.ref h'.objs.size, _, I2, rfl, q _ (I1.hok.fresh (Nat.le_refl _))⟩
  · obtain ⟨its, r', pl, hz⟩ := I.tuple hq
    exact call_tuple_same pl ⟨.ref p, H, I, rfl, q⟩
def tyV (K : PySem.W.Frag) (T : String) (x : V) (H : Hp) : Prop := match x with
  | .str _ => T = "str"
  | .int _ => T = "int"
  | .ref p => (T = "list" ∧ ∃ xs, SqL K H p xs) ∨ (T = "tuple" ∧ ∃ o, K.lookup p = some o ∧ o.cls = .type "tuple" ∧ o.dict = none) ∨
      (T = "dict" ∧ ((∃ kvs, H p = some (.dK kvs)) ∨ (∃ kvs, H p = some (.dT kvs)) ∨ ∃ ks vs, Rd H p (.dct ks vs))) ∨ (T = "set" ∧ ∃ S n, H p = some (.set S n))
  | _ => False
theorem tyV_is {pins : List (Addr × Obj)} {σ : St} {H : Hp} {s : Shared} {T : String} {x : V} {v : Value} (I : Inv X pins σ H s) (r : RelV x v) (ty : tyV X.K T x H) :
    s.TypeIs v T ∧ ∀ a, v = .ref a → ∃ ob, s.heap.get? a = some ob ∧ ob.dict = none := by
  cases x with
  | str z =>
    obtain ⟨t, rfl⟩ := r
    cases (show T = "str" from ty)
    exact ⟨typeIs_str s z t, fun _ e => nomatch e⟩
  | int i =>
    obtain ⟨t, rfl⟩ := r
    cases (show T = "int" from ty)
    exact ⟨typeIs_int s i t, fun _ e => nomatch e⟩
  | ref p =>
    cases r
    rcases ty with ⟨rfl, xs, hq⟩ | ⟨rfl, o, hk, hc, hd⟩ | ⟨rfl, hk⟩ | ⟨rfl, S, n, hk⟩
    · obtain ⟨its, _, pl, _⟩ := I.list hq
      refine ⟨pl.isList.typeIs, fun a e => ?_⟩
      cases e
      obtain ⟨o, n, e, c, hd, _⟩ := pl
      exact ⟨o, e, hd⟩
    · refine ⟨⟨o, I.kIn p o hk, hc⟩, fun a e => ?_⟩
      cases e
      exact ⟨o, I.kIn _ o hk, hd⟩
    · have z : ∃ o, s.heap.get? p = some o ∧ o.ExactDict := by
        rcases hk with ⟨kvs, hk⟩ | ⟨kvs, hk⟩ | ⟨ks, vs, hk⟩
        · obtain ⟨_, _, _, _, o, _, _, e, ex, _⟩ := I.hok p _ hk
          exact ⟨o, e, ex⟩
        · obtain ⟨_, _, _, _, o, _, _, e, ex, _⟩ := I.hok p _ hk
          exact ⟨o, e, ex⟩
        · obtain ⟨_, _, _, o, _, _, e, ex, _⟩ := hk.ok I.hok
          exact ⟨o, e, ex⟩
      obtain ⟨o, e, ex⟩ := z
      refine ⟨⟨o, e, ex.1⟩, fun a e2 => ?_⟩
      cases e2
      exact ⟨o, e, ex.2.1⟩
    · obtain ⟨o, _, _, _, e, ex, _⟩ := I.hok p _ hk
      refine ⟨⟨o, e, ex.1⟩, fun a e2 => ?_⟩
      cases e2
      exact ⟨o, e, ex.2.1⟩
  | _ => exact False.elim ty
def tBM0 (K : PySem.W.Frag) (T : String) (r : V → List V → Hp → VK → Prop) (to : TE) : TE := fun σ H Q => to σ H fun x H1 => tyV K T x H1 ∧ r x [] H1 Q
def tBM (K : PySem.W.Frag) (T : String) (r : V → List V → Hp → VK → Prop) (to : TE) (t : TA) : TE := fun σ H Q => to σ H fun x H1 => tyV K T x H1 ∧ t σ H1 fun xs H2 => r x xs H2 Q
variable {o e : Expr} {es : List Expr} {to : TE} {t : TA} {name : Str} {apos cpos : Pos} {T id : String} {r : V → List V → Hp → VK → Prop}
theorem pe_bm0 (pa : PlainAttrs T) (slot : Slot T name id) (hty : typeOf (.builtin id) = pure (.type "method_descriptor")) (hm : MtR X id r) (ho : PE X o to)
    (hbase : attributeBase o name X.env (eval o X.env) = eval o X.env := by rfl) (hline : (apos.endLine == cpos.line) = true := by rfl) : PE X (.Call (.Attribute o name apos) [] [] cpos) (tBM0 X.K T r to) := by
  intro pins s σ H Q I h
  refine wpAny_Call_method0_late hbase hline (thn (ho pins s σ H _ I h) fun v s1 ⟨x, H1, I1, r1, ty, q1⟩ => ?_)
  obtain ⟨h1, h2⟩ := tyV_is I1 r1 ty
  exact ⟨T, id, pa, slot, hty, h1, h2, Calls.callWith_builtin rfl (PySem.evalArgs_none (hm pins s1 σ H1 x [] v [] Q I1 r1 .nil q1))⟩
theorem pe_bm (pa : PlainAttrs T) (slot : Slot T name id) (hty : typeOf (.builtin id) = pure (.type "method_descriptor")) (hm : MtR X id r) (ho : PE X o to) (ha : PA X (e :: es) t)
    (hbase : attributeBase o name X.env (eval o X.env) = eval o X.env := by rfl)
    (hfew : ((backTo cpos (starEach (e :: es) X.env)).all (fun x => !x.1) && (backToKw cpos (keywordEach [] X.env)).all (fun x => x.1.isSome)
      && decide ((e :: es).length + ([] : List Keyword).length + (if ([] : List Keyword).isEmpty then 0 else 1) < 30)) = true := by rfl)
    (hline : (apos.endLine == cpos.line) = true := by rfl) (hs : starEach (e :: es) X.env = (false, eval e X.env) :: starEach es X.env := by rfl) (hplain : (backTo cpos (starEach es X.env)).any (·.1) = false := by rfl) :
    PE X (.Call (.Attribute o name apos) (e :: es) [] cpos) (tBM X.K T r to t) := by
  intro pins s σ H Q I h
  refine wpAny_Call_method_late hbase hfew hline rfl (thn (ho pins s σ H _ I h) fun v s1 ⟨x, H1, I1, r1, ty, q1⟩ => ?_)
  obtain ⟨h1, h2⟩ := tyV_is I1 r1 ty
  refine ⟨T, id, pa, slot, hty, h1, h2, ?_⟩
  have hA := ha cpos pins s1 σ H1 _ I1 q1
  rw [hs] at hA ⊢
  refine Calls.callWith_builtin (by show (false || (backTo cpos (starEach es X.env)).any (·.1)) = false; rw [hplain] <;> rfl) (Calls.evalArgs_plain ?_)
  exact thn hA fun us s2 ⟨vs, H2, I2, r2, q2⟩ => hm pins s2 σ H2 x vs v us Q I2 r1 r2 q2
end
end L2
namespace L2
open PySem PySem.Spec PyProof.Rows
def MtM (X : Cx) (id : String) (r : V → List V → Hp → VK → Prop) : Prop :=
  ∀ (pins : List (Addr × Obj)) (s : Shared) (σ : St) (H : Hp) (x : V) (xs : List V) (v : Value) (us : List Value) (Q : VK), Inv X pins σ H s → RelV x v → Vals xs us → r x xs H Q →
    wpAny (model X.prog X.w) X.A (call (.builtin id) (v :: us)) (EP X pins σ Q) X.xe s
theorem Vals.one : ∀ {x : V} {us : List Value}, Vals [x] us → ∃ u, us = [u] ∧ RelV x u
  | _, _, .cons r .nil => ⟨_, rfl, r⟩
theorem Vals.two : ∀ {x y : V} {us : List Value}, Vals [x, y] us → ∃ u v, us = [u, v] ∧ RelV x u ∧ RelV y v
  | _, _, _, .cons r (.cons q .nil) => ⟨_, _, rfl, r, q⟩
theorem Vals.zero : ∀ {us : List Value}, Vals [] us → us = []
  | _, .nil => rfl
theorem Vals.reverse {xs : List V} {us : List Value} (h : Vals xs us) : Vals xs.reverse us.reverse := by
  induction h with
  | nil => exact .nil
  | cons r t ih => rw [List.reverse_cons, List.reverse_cons]; exact Vals.append ih (.cons r .nil)
theorem Vals.rep {xs : List V} {us : List Value} (h : Vals xs us) : ∀ k : Nat, Vals (List.replicate k xs).flatten (List.replicate k us).flatten
  | 0 => .nil
  | k + 1 => by
    rw [List.replicate_succ, List.replicate_succ, List.flatten_cons, List.flatten_cons]
    exact Vals.append h (Vals.rep h k)
section
variable {X : Cx} {pins : List (Addr × Obj)} {σ : St} {H : Hp} {s : Shared} {l b : Addr} {xs ys zs : List V}
theorem Inv.lset {its its' : List Value} {n : Nat} {f : Array Value → Array Value} {t' : Nat} (I : Inv X pins σ H s) (hH : H l = some (.lst xs))
    (e : s.heap.get? l = some { cls := .type "list", data := .seq its.toArray n }) (hf : f its.toArray = its'.toArray) (hv : Vals ys its') (hz : ys.length ≤ sizeLine) :
    Inv X pins σ (upd H l (.lst ys)) { s with heap := s.heap.update l (Obj.mapSeq f), toks := t' } := by
  have q := PySem.IsL.update e f
  rw [hf] at q
  refine I.write (x := l) (e := l) (by rw [hH]; exact trivial) (.inl rfl) (fun b' u hb hu => (Heap.get?_update_other s.heap (Obj.mapSeq f) (Ne.symm hb)).trans hu) ⟨_, q⟩ ?_
  exact ⟨hz, its', _, hv, q⟩
theorem Inv.lnew {its : List Value} {t' : Nat} (I : Inv X pins σ H s) (hv : Vals ys its) (hz : ys.length ≤ sizeLine) :
    Inv X pins σ (upd H s.heap.objs.size (.lst ys)) { s with heap := s.heap.push { cls := .type "list", data := .seq its.toArray }, toks := t' } :=
  I.laid (fun _ _ q => Heap.get?_push_of_some _ q) (Nat.le_refl _) ⟨hz, its, 0, hv, Heap.get?_push_size _ rfl⟩
theorem Inv.fresh (I : Inv X pins σ H s) : H s.heap.objs.size = none := I.hok.fresh (Nat.le_refl _)
theorem Inv.lstM (I : Inv X pins σ H s) (hH : H l = some (.lst xs)) : xs.length ≤ sizeLine ∧ ∃ (its : List Value) (n : Nat), Vals xs its ∧ xs.length = its.length ∧ s.heap.get? l = some { cls := .type "list", data := .seq its.toArray n } := by
  obtain ⟨z, its, n, r, e⟩ := I.hok l _ hH
  exact ⟨z, its, n, r, r.length, e⟩
end
section
variable {X : Cx}
def rAppend : V → List V → Hp → VK → Prop := fun x vs H Q => ∃ l xs y, x = .ref l ∧ vs = [y] ∧ H l = some (.lst xs) ∧ xs.length < sizeLine ∧ Q .non (upd H l (.lst (xs ++ [y])))
theorem mt_append : MtM X "list.append" rAppend := by
  intro pins s σ H x vs v us Q I rx rv h
  obtain ⟨l, xs, y, rfl, rfl, hH, hz, q⟩ := h
  cases rx
  obtain ⟨u, rfl, ru⟩ := rv.one
  obtain ⟨z, its, n, r, hl, e⟩ := I.lstM hH
  refine call_meets F.slot_list_append ⟨_, e, rfl⟩ F.entry_list_append (F.args_list_append_2 _ _) (PySem.list_append l its.toArray n u (by rw [List.size_toArray]; omega)) ⟨e, ?_⟩
  refine ⟨.non, _, I.lset (its' := its ++ [u]) hH e (by simp) (r.append (.cons ru .nil)) ?_, rfl, q⟩
  rw [List.length_append, List.length_singleton]
  omega
def rReverse : V → List V → Hp → VK → Prop := fun x vs H Q => ∃ l xs, x = .ref l ∧ vs = [] ∧ H l = some (.lst xs) ∧ Q .non (upd H l (.lst xs.reverse))
theorem mt_reverse : MtM X "list.reverse" rReverse := by
  intro pins s σ H x vs v us Q I rx rv h
  obtain ⟨l, xs, rfl, rfl, hH, q⟩ := h
  cases rx
  have hus := rv.zero
  subst hus
  obtain ⟨z, its, n, r, hl, e⟩ := I.lstM hH
  refine call_meets F.slot_list_reverse ⟨_, e, rfl⟩ F.entry_list_reverse (F.args_list_reverse_1 _) (AutoSeq1.list_reverse_list_0 l its.toArray n (by rw [List.size_toArray]; omega)) ⟨e, ?_⟩
  refine ⟨.non, _, I.lset (its' := its.reverse) hH e (by simp) r.reverse ?_, rfl, q⟩
  rw [List.length_reverse]
  omega
end
section
variable {prog : Program} {w : World} {A : Around} {E : Value → Shared → Prop} {s : Shared}
set_option maxRecDepth 100000 in
end
section
variable {X : Cx}
end
end L2
namespace Att
open PySem PySem.W PySem.Calls PyProof.Rows
theorem ints_of_wellAll {P : Params} {h : Heap} : ∀ (ns : List Int) (vs : List Value), WellAll P h vs (ns.map WData.int) → IntsAre vs ns := by
  intro ns
  induction ns with
  | nil =>
    intro vs w
    rw [List.map_nil] at w
    cases w
    exact .nil
  | cons n ns ih =>
    intro vs w
    rw [List.map_cons] at w
    cases w with
    | cons a b =>
      cases a
      exact .cons _ _ (ih _ b)
theorem script_of {l : OpenLaw} {n : Nat} (hn : l.most = some n) {P : Params} {h : Heap} {args : List WData} {vals : List Value}
    (hpre : l.row.toRowW.claim.pre args = true) (hwl : WellAll P h vals args) :
    ∃ a vs ns, vals = [Value.ref a] ∧ args = [WData.list (ns.map WData.int)] ∧ h.get? a = some { cls := .type "list", data := .seq vs.toArray } ∧ IntsAre vs ns ∧ ns.length ≤ n := by
  have hsh : WShape.hasAll [] args [.list .int] = true := (pre_splitW hpre).1
  have hc : l.pre.holds [] { args := args } = true := (pre_splitW hpre).2
  obtain ⟨d, r, rfl, h1, h2⟩ := hasAllW_cons hsh
  obtain rfl := hasAllW_nil h2
  obtain ⟨xs, rfl, h3⟩ := hasW_list h1
  obtain ⟨ns, rfl⟩ := items_int h3
  have hlen : ns.length ≤ n := by
    unfold OpenLaw.pre at hc
    have h4 : (WTm.not (.lt (.lit (.int (n : Int))) (.len (.arg 0)))).holds [] { args := [.list (ns.map .int)] } = true := by
      have h4 := (holds_andW hc).1
      rw [hn] at h4
      exact h4
    have h5 := condW_of h4 (w_not (w_lt w_lit (w_len_list (w_arg rfl))))
    rw [List.length_map] at h5
    refine Nat.le_of_not_lt fun q => ?_
    have q' : (n : Int) < ((ns.length : Nat) : Int) := by omega
    first
      | (rw [decide_eq_true q'] at h5; exact absurd h5 (by decide))
      | (simp at h5; omega)
  cases hwl with
  | cons w1 w2 =>
    cases w2
    cases w1 with
    | list ho hall => exact ⟨_, _, ns, rfl, rfl, ho, ints_of_wellAll ns _ hall, hlen⟩
theorem post_true (l : OpenLaw) (args : List WData) : l.row.toRowW.claim.post args (.bool true) args = true :=
  postW_of (r := l.row.toRowW) (X := (true == true))
    (show WShape.has [] (.bool true) .bool = true by first | rfl | decide | simp [WShape.has, WShape.arms, WShape.armsAll])
    (show (WTm.eq .res (.lit (.bool true))).value [] { args := args, res := some (.bool true), after := args } = some (.bool (true == true)) from w_eq_bool (w_res rfl) w_lit) rfl
theorem attach_call {l : OpenLaw} {n : Nat} {q : Program} {loose : List Str} {XP : (Str → Option Value) → Heap → Prop} {YP : World → Heap → Prop} {d : DefRec}
    (hn : l.most = some n) (hdf : d.params.defaults = [])
    (call : ∀ (w : World) (s₀ s₁ : Shared) (mg mb : Str → Option Value) (fa : Addr) (o : Obj) (pm cd doc : Value) (a : Addr) (vs : List Value) (ns : List Int),
      Ground q loose [] XP w s₀ mg mb s₁.heap → YP w s₁.heap →
      s₁.heap.get? fa = some o → o.data = .func (docDef d.name d.params d.body d.scope pm cd doc) → s₁.heap.CodeRec cd d.name → mg d.name = some (.ref fa) →
      s₁.heap.get? a = some { cls := .type "list", data := .seq vs.toArray } → IntsAre vs ns → ns.length ≤ n → s₁.gens = #[] →
      codeAny (model l.prog w) callerA (.call (.ref fa) ⟨[.ref a], []⟩) (fun r s' => r = .ok (.ret (.bool true)) ∧ OldK s₁.heap s'.heap ∧ s'.os = s₁.os ∧ AllBare s'.gens) s₁) :
    WalkO q loose XP YP l.row.toRowW d [] (fun f vs => PySem.call f vs) := by
  intro w s₀ s₁ mg mb G Y fa o pm cd doc dV kV ho hd hcd hD hmg hg args vals as hpre hlay hrd hwl hlo
  obtain rfl : dV = .none := Dflts.none hD hdf
  obtain rfl : kV = .none := Dflts.noKw hD
  obtain ⟨a, vs, ns, rfl, rfl, hobj, hints, hlen⟩ := script_of hn hpre hwl
  refine enter_call (codeAny_mono (call w s₀ s₁ mg mb fa o pm cd doc a vs ns G Y ho (fd_plain hd) hcd hmg hobj hints hlen hg) fun r s' hq => ?_)
  obtain ⟨rfl, h2, h3, h4⟩ := hq
  exact ⟨.inl ⟨.bool true, .bool true, [], rfl, fun _ => rfl, .bool true, post_true l _, fun _ => ⟨List.Pairwise.nil, fun _ hm => (nomatch hm)⟩⟩, h2, h3, h4⟩
section
variable {prog : Program} {w : World} {A : Around} {E : Value → Shared → Prop} {s : Shared} {K : Frag}
end
end Att
namespace L2
open PySem PySem.Spec PyProof.Rows
theorem vals_ints : ∀ {vs : List Value} {ns : List Int}, IntsAre vs ns → Vals (ns.map V.int) vs
  | _, _, .nil => .nil
  | _, _, .cons n t h => .cons ⟨t, rfl⟩ (vals_ints h)
def Only (H : Hp) : Prop := ∀ b, H b = none ∨ ∃ o xs, H b = some (.frz o (.lst xs))
theorem law_call {P : Program} {w : World} {K : PySem.W.Frag} {mg mb : Str → Option Value} {CX : CXT} {k : Nat} {fa a : Addr} {fd : FuncData} {x : Str} {sp : Sp} {s₁ : Shared} {vs : List Value} {ns : List Int}
    (KX : K.In s₁.heap) (hns : s₁.heap.Ns mainGlobals mg) (hb : s₁.heap.Ns builtinsNs mb) (hbb : ∀ x : Str, x ≠ "__name__" → mb x = bootBuiltins x) (hlim : s₁.heap.NoLimit) (hg : s₁.gens = #[])
    (ha : s₁.heap.get? a = some { cls := .type "list", data := .seq vs.toArray }) (hi : IntsAre vs ns) (hl : ns.length ≤ sizeLine) (hr : Room k callerA)
    (F : ∀ base : Heap, K.In base → base.Ns mainGlobals mg → FnOk P w K mg base CX k fa fd [x] sp) (hbind : ∀ (s : Shared) (u : Value), BindsTo s fd ⟨[u], []⟩ [(x, u)])
    (hsp : ∀ H : Hp, Only H → SqL K H a (ns.map V.int) → sp [.ref a] H (fun v _ => v = .bl true) fun _ _ _ => False)
    (hCX : ∀ H e s', CX [] H s₁ (fun _ _ _ => False) e s' → False) :
    codeAny (model P w) callerA (.call (.ref fa) ⟨[.ref a], []⟩) (fun r s' => r = .ok (.ret (.bool true)) ∧ OldK s₁.heap s'.heap ∧ s'.os = s₁.os ∧ AllBare s'.gens) s₁ := by
  have rv := vals_ints hi
  have lenV := hi.length
  -- from an abstract heap in which nothing but the script may be tracked
  have core : ∀ H : Hp, Only H → SqL K H a (ns.map V.int) → HOk P w H s₁.heap → (∀ b, H b ≠ none → b = a) → (H a ≠ none → K.lookup a = none) →
      codeAny (model P w) callerA (.call (.ref fa) ⟨[.ref a], []⟩) (fun r s' => r = .ok (.ret (.bool true)) ∧ OldK s₁.heap s'.heap ∧ s'.os = s₁.os ∧ AllBare s'.gens) s₁ := by
    intro H hO hS hok hA hK
    have base_of : ∀ {b : Addr} {o : Obj}, s₁.heap.get? b = some o → H b = none → (hidT s₁.heap H).get? b = some o := fun e n => hidT_get e n
    have noA : ∀ {b : Addr} {o : Obj} {es : Array DictEntry} {ep : Nat}, s₁.heap.get? b = some o → o.data = .dict es ep → H b = none := fun {b o es ep} e d => by
      cases q : H b with
      | none => rfl
      | some u =>
        have e' : b = a := hA b (by rw [q]; simp)
        subst e'
        rw [ha] at e; cases e
        have d' : Data.seq vs.toArray _ = Data.dict es ep := d
        cases d'
    have nsK : ∀ {b : Addr} {m : Str → Option Value}, s₁.heap.Ns b m → (hidT s₁.heap H).Ns b m := fun {b m} ⟨o, es, ep, e, d, r⟩ => ⟨o, es, ep, base_of e (noA e d), d, r⟩
    have hKb : K.In (hidT s₁.heap H) := fun b o e => base_of (KX b o e) (by
      cases q : H b with
      | none => rfl
      | some u =>
        have e' : b = a := hA b (by rw [q]; simp)
        subst e'
        rw [hK (by rw [q]; simp)] at e; cases e)
    have hM : Mod K mg (hidT s₁.heap H) := ⟨hKb, nsK hns, ⟨mb, nsK hb, hbb⟩, let ⟨mc, h1, h2⟩ := hlim; ⟨mc, nsK h1, h2⟩⟩
    have e0 : Env0 P w K mg (hidT s₁.heap H) callerA [] s₁ H := ⟨rfl, hM, fun b o e => of_hidT e, Nat.le_of_eq (hidT_size _ _), trivial, fun b hb => absurd (show b ∈ ([] : List Addr) from hb) (by simp), hok, .of_eq hg⟩
    refine codeAny_mono ((F _ hKb (nsK hns)).run callerA [] s₁ H ⟨[.ref a], []⟩ [.ref a] [.ref a] _ _ hr e0 (hbind s₁ (.ref a)) (.cons rfl .nil) (hsp H hO hS)) fun r s' h => ?_
    cases r with
    | error e => exact (hCX H e s' h).elim
    | ok fl =>
      cases fl with
      | next => exact False.elim h
      | brk => exact False.elim h
      | cont => exact False.elim h
      | ret u =>
        obtain ⟨v, H', os, bare, un, hok', r', q⟩ := h
        have q' : v = .bl true := q
        subst q'
        obtain rfl : u = Value.bool true := r'
        refine ⟨rfl, OldK.of_keep fun b o e => ?_, os, bare⟩
        cases q : H b with
        | none => exact un.keep b o e q (by intro z; exact absurd (show b ∈ ([] : List Addr) from z) (by simp)) (by simp)
        | some u =>
          rcases hO b with z | ⟨ob, xs, z⟩
          · rw [q] at z; cases z
          · have z2 := un.frzs b ob _ z
            obtain ⟨e1, _⟩ := hok b _ z
            obtain ⟨e2, _⟩ := hok' b _ z2
            rw [e] at e1; cases e1
            exact e2
  cases hk : K.lookup a with
  | some o =>
    -- the script is one of the module's own objects
    have e := KX a o hk
    rw [ha] at e
    cases e
    refine core (fun _ => none) (fun _ => .inl rfl) (.inr ⟨_, vs.toArray, _, hk, rfl, rfl, rfl, by rw [List.size_toArray, lenV]; exact hl, by simpa using rv⟩) (fun b u z => by have z' : (none : Option HO) = some u := z; cases z') (fun b z => absurd rfl z) fun z => absurd rfl z
  | none =>
    refine core (fun b => if b = a then some (.frz { cls := .type "list", data := .seq vs.toArray } (.lst (ns.map V.int))) else none) (fun b => ?_) (.inl (.inr ⟨{ cls := .type "list", data := .seq vs.toArray }, if_pos rfl⟩)) (fun b u z => ?_) (fun b z => ?_) fun _ => hk
    · by_cases hb : b = a
      · exact .inr ⟨_, _, if_pos hb⟩
      · exact .inl (if_neg hb)
    · by_cases hb : b = a
      · have z' := (if_pos hb).symm.trans z
        cases z'
        subst hb
        exact ⟨ha, by rw [List.length_map]; exact hl, vs, _, rv, ha⟩
      · have z' := (if_neg hb).symm.trans z
        cases z'
    · by_cases hb : b = a
      · exact hb
      · exact absurd (if_neg hb) z
end L2
namespace L2
open PySem PySem.Spec PyProof.Rows
theorem walk_of {l : PySem.W.OpenLaw} {n k : Nat} {q : Program} {loose : List Str} {XP : (Str → Option Value) → Heap → Prop} {YP : World → Heap → Prop} {d : DefRec} {K : Params → PySem.W.Frag} {CX : World → CXT} {sp : World → Sp} {x : Str}
    (hn : l.most = some n) (hn2 : n ≤ sizeLine) (hdf : d.params.defaults = []) (hr : Room k callerA)
    (hY : ∀ (w : World) (h : Heap), YP w h → (K w.params).In h)
    (F : ∀ (w : World) (mg : Str → Option Value) (fa : Addr) (h : Heap), (K w.params).In h → h.Ns mainGlobals mg → mg d.name = some (.ref fa) →
      ∃ fd : FuncData, (∀ (s : Shared) (u : Value), BindsTo s fd ⟨[u], []⟩ [(x, u)]) ∧
        ∀ base : Heap, (K w.params).In base → base.Ns mainGlobals mg → FnOk l.prog w (K w.params) mg base (CX w) k fa fd [x] (sp w))
    (hsp : ∀ (w : World) (H : Hp) (a : Addr) (ns : List Int), ns.length ≤ n → Only H → SqL (K w.params) H a (ns.map V.int) → sp w [.ref a] H (fun v _ => v = .bl true) fun _ _ _ => False)
    (hCX : ∀ (w : World) (H : Hp) (s : Shared) (e : Value) (s' : Shared), CX w [] H s (fun _ _ _ => False) e s' → False) :
    PySem.W.WalkO q loose XP YP l.row.toRowW d [] (fun f vs => PySem.call f vs) := by
  refine Att.attach_call hn hdf fun w s₀ s₁ mg mb fa o pm cd doc a vs ns G Y ho hd hcd hmg hobj hints hlen hg => ?_
  have KX := hY w _ Y
  obtain ⟨fd, hb, hF⟩ := F w mg fa _ KX G.T.g hmg
  exact law_call KX G.T.g G.T.b G.T.builtins G.T.nolimit hg hobj hints (Nat.le_trans hlen hn2) hr hF hb (fun H hO hS => hsp w H a ns hlen hO hS) fun H e s' => hCX w H s₁ e s'
end L2
namespace L2
open PySem PySem.Spec PyProof.Rows
def defArgs (s : Stmt) : Arguments := match s with
  | .FunctionDef _ a _ _ _ _ _ _ _ _ => a
  | _ => { posonlyargs := [], args := [], vararg := none, kwonlyargs := [], kw_defaults := [], kwarg := none, defaults := [] }
def defBody (s : Stmt) : List Stmt := match s with
  | .FunctionDef _ _ b _ _ _ _ _ _ _ => b
  | _ => []
def defScope (s : Stmt) : Scope := match s with
  | .FunctionDef _ _ _ _ _ _ sc _ _ _ => sc
  | _ => { kind := .function, names := [], isGenerator := false, isCoroutine := false }
abbrev CX0 : CXT := fun _ _ _ _ _ _ => False
abbrev E0 : XK := fun _ _ _ => False
theorem pass0 {X : Cx} : Passes CX0 X E0 := fun _ _ _ _ _ _ _ h => h.elim
structure Fun (K : PySem.W.Frag) (x qual : Str) (st : Stmt) (f : Addr) (fd : FuncData) : Prop where
  ex : ∃ (oc : Value) (od : Option Addr) (kV doc pm : Value) (an : Option Addr) (cdv ct : Value) (osl : Array (Option Value)),
    fd = PySem.W.fnOf x qual (defArgs st) (defBody st) (defScope st) .none kV doc pm an cdv ct ∧ K.lookup f = some ⟨oc, od, .func fd, osl⟩ ∧ PySem.W.codeIn K cdv qual = true
  kp : PySem.W.keepIn K (.ref f) = true
section
variable {P : Program} {w : World} {K : PySem.W.Frag} {mg : Str → Option Value} {base : Heap}
theorem Fun.ok {x qual : Str} {st : Stmt} {f : Addr} {fd : FuncData} {N ps : List Str} {k : Nat} {sp : Sp} (F : Fun K x qual st f fd) (S : FnScope N ps (defScope st)) (len : ∀ vs H Q E, sp vs H Q E → vs.length = ps.length)
    (hbody : ∀ (cdv : Value) (A : Around) (outer : List Env) (s : Shared) (H : Hp) (vs : List V) (Q : VK) (E : XK), Room k (A.deeper (envOfC qual (defScope st) s.heap.objs.size f cdv)) → sp vs H Q E →
      ∃ t, PSs (cxOf CX0 P w K mg base N qual (defScope st) f cdv A outer s H E).nox (defBody st) t ∧ t { nx := fun _ H' => Q .non H', rt := Q } (start N vs) H) : FnOk P w K mg base CX0 (k + 1) f fd ps sp := by
  obtain ⟨oc, od, kV, doc, pm, an, cdv, ct, osl, rfl, lk, hcd⟩ := F.ex
  refine fn_of lk hcd S len fun A outer s H vs Q E hr hsp => ?_
  obtain ⟨t, h, q⟩ := hbody cdv A outer s H vs Q E hr hsp
  exact ⟨t, h.nox, q⟩
theorem Fun.binds {x qual : Str} {st : Stmt} {f : Addr} {fd : FuncData} {ps : List Str} (F : Fun K x qual st f fd)
    (h : ∀ (kV doc pm : Value) (an : Option Addr) (cdv ct : Value) (us : List Value), us.length = ps.length → bindArgs (PySem.W.fnOf x qual (defArgs st) (defBody st) (defScope st) .none kV doc pm an cdv ct) ⟨us, []⟩ = pure (ps.zip us)) : Binds K fd ps [] := by
  obtain ⟨oc, od, kV, doc, pm, an, cdv, ct, osl, rfl, lk, hcd⟩ := F.ex
  exact .all (h kV doc pm an cdv ct)
theorem fun_mk {x qual : Str} {st : Stmt} {f : Addr} {oc : Value} {od an : Option Addr} {osl : Array (Option Value)} {kV doc pm cdv ct : Value} (l : K.lookup f = some ⟨oc, od, .func (PySem.W.fnOf x qual (defArgs st) (defBody st) (defScope st) .none kV doc pm an cdv ct), osl⟩)
    (c : PySem.W.codeIn K cdv qual = true) (k : PySem.W.keepIn K (.ref f) = true) : Fun K x qual st f (PySem.W.fnOf x qual (defArgs st) (defBody st) (defScope st) .none kV doc pm an cdv ct) := ⟨⟨oc, od, kV, doc, pm, an, cdv, ct, osl, rfl, l, c⟩, k⟩
end
section
variable {X : Cx}
end
def Same (H H' : Hp) : Prop := ∀ b o, H b = some o → H' b = some o
theorem Same.refl (H : Hp) : Same H H := fun _ _ h => h
theorem Same.trans {H H1 H2 : Hp} (a : Same H H1) (b : Same H1 H2) : Same H H2 := fun c o h => b c o (a c o h)
theorem Same.free {H H' : Hp} (e : Same H H') {l : Addr} (h : H' l = Option.none) : H l = Option.none := by
  cases q : H l with
  | none => rfl
  | some o =>
    rw [e l o q] at h
    cases h
theorem Same.seq {K : PySem.W.Frag} {H H' : Hp} {a : Addr} {xs : List V} (e : Same H H') (h : SqL K H a xs) : SqL K H' a xs := by
  rcases h with (h | ⟨o, h⟩) | h
  · exact .inl (.inl (e _ _ h))
  · exact .inl (.inr ⟨o, e _ _ h⟩)
  · exact .inr h
end L2
set_option Elab.async false
set_option linter.all false
set_option maxRecDepth 100000
set_option maxHeartbeats 4000000
namespace L2
open PySem PySem.Spec PyProof.Rows
def closL (env : Env) : List (Str × NameKind) → List (Str × Addr) → List (Str × Addr)
  | [], cs => cs
  | (n, k) :: r, cs => if k = NameKind.free then closL env r ((n, (env.cells.lookup n).getD 0) :: cs) else closL env r cs
theorem closureFor_eq {scope : Scope} {env : Env} (h : ∀ x ∈ scope.names, x.2 = .free → ∃ c, env.cells.lookup x.1 = some c) :
    closureFor scope env = pure (closL env scope.names []) := by
  have all : ∀ (l : List (Str × NameKind)) (cs : List (Str × Addr)), (∀ x ∈ l, x.2 = .free → ∃ c, env.cells.lookup x.1 = some c) →
      (forIn l cs (fun (x : Str × NameKind) (cs : List (Str × Addr)) => if (x.2 == NameKind.free) = true then (do let a ← cellOf env x.1; pure (ForInStep.yield ((x.1, a) :: cs))) else pure (ForInStep.yield cs)) : Sem (List (Str × Addr))) = pure (closL env l cs) := by
    intro l
    induction l with
    | nil => intro cs _; rfl
    | cons x l ih =>
      intro cs hx
      obtain ⟨n, k⟩ := x
      rw [List.forIn_cons]
      have hr := fun cs => ih cs (fun y hy => hx y (List.mem_cons_of_mem _ hy))
      by_cases hk : k = .free
      · subst hk
        obtain ⟨c, hc⟩ := hx (n, .free) List.mem_cons_self rfl
        have e : cellOf env n = pure c := by unfold cellOf; simp only [hc]
        simp only [beq_self_eq_true, if_true, e, pure_bind, hr, closL, hc, Option.getD_some]
      · have hb : (k == NameKind.free) = false := by simpa using hk
        simp only [hb, Bool.false_eq_true, if_false, pure_bind, hr, closL, hk]
  have := all scope.names [] h
  simp only [closureFor]
  rw [← bind_pure (pure (closL env scope.names []) : Sem _), ← this]
theorem closL_mem {env : Env} : ∀ (l : List (Str × NameKind)) (cs : List (Str × Addr)), (∀ x ∈ l, x.2 = .free → ∃ c, env.cells.lookup x.1 = some c) →
    (∀ p ∈ cs, env.cells.lookup p.1 = some p.2) → ∀ p ∈ closL env l cs, env.cells.lookup p.1 = some p.2
  | [], cs, _, h => h
  | (n, k) :: r, cs, hx, h => by
    have hr : ∀ x ∈ r, x.2 = .free → ∃ c, env.cells.lookup x.1 = some c := fun y hy => hx y (List.mem_cons_of_mem _ hy)
    by_cases hk : k = .free
    · subst hk
      obtain ⟨c, hc⟩ := hx (n, .free) List.mem_cons_self rfl
      simp only [closL, if_true]
      refine closL_mem r _ hr fun p hp => ?_
      rcases List.mem_cons.mp hp with e | hp
      · subst e; simp only [hc, Option.getD_some]
      · exact h p hp
    · simp only [closL, hk, if_false]
      exact closL_mem r cs hr h
theorem closL_has {env : Env} : ∀ (l : List (Str × NameKind)) (cs : List (Str × Addr)) (x : Str), ((x, NameKind.free) ∈ l ∨ ∃ c, (x, c) ∈ cs) → ∃ c, (x, c) ∈ closL env l cs
  | [], cs, x, h => by
    rcases h with h | h
    · cases h
    · exact h
  | (n, k) :: r, cs, x, h => by
    by_cases hk : k = .free
    · subst hk
      simp only [closL, if_true]
      refine closL_has r _ x ?_
      rcases h with h | ⟨c, h⟩
      · rcases List.mem_cons.mp h with e | h
        · cases e; exact .inr ⟨_, List.mem_cons_self⟩
        · exact .inl h
      · exact .inr ⟨c, List.mem_cons_of_mem _ h⟩
    · simp only [closL, hk, if_false]
      refine closL_has r cs x ?_
      rcases h with h | h
      · rcases List.mem_cons.mp h with e | h
        · cases e; exact absurd rfl hk
        · exact .inl h
      · exact .inr h
theorem lookup_has {β : Type} : ∀ {l : List (Str × β)} {x : Str} {c : β}, (x, c) ∈ l → ∃ d, l.lookup x = some d
  | [], _, _, h => by cases h
  | (n, b) :: r, x, c, h => by
    rw [List.lookup_cons]
    cases e : x == n with
    | true => exact ⟨b, rfl⟩
    | false =>
      rcases List.mem_cons.mp h with z | h
      · cases z; simp at e
      · exact lookup_has h
structure CompSc (own outs : List Str) (sc osc : Scope) : Prop where
  kind : sc.kind = .function
  nocell : ∀ x ∈ sc.names, x.2 ≠ .cell
  free : ∀ x ∈ sc.names, x.2 = .free → osc.names.lookup x.1 = some .cell ∨ osc.names.lookup x.1 = some .free
  loc : ∀ x ∈ sc.names, x.2 = .local → sc.names.lookup x.1 = some .local
  out : ∀ x ∈ outs, sc.names.lookup x = some .free
  nd : (own ++ outs).Nodup
theorem relabel_free {env : Env} : ∀ {names : List (Str × NameKind)} {x : Str}, names.lookup x = some .free →
    ((names.map fun (n, k) => if (k == NameKind.free && env.scope.kind == .function && env.kindOf n == some .cell) then (n, NameKind.cell) else (n, k)).lookup x = some .cell ∨
      (names.map fun (n, k) => if (k == NameKind.free && env.scope.kind == .function && env.kindOf n == some .cell) then (n, NameKind.cell) else (n, k)).lookup x = some .free)
  | [], _, h => by simp at h
  | (n, k) :: r, x, h => by
    have ih := @relabel_free env r x
    rw [List.map_cons]
    by_cases hc : (k == NameKind.free && env.scope.kind == .function && env.kindOf n == some .cell) = true
    · rw [show (match ((n, k) : Str × NameKind) with | (n, k) => if (k == NameKind.free && env.scope.kind == .function && env.kindOf n == some .cell) then (n, NameKind.cell) else (n, k)) = (n, NameKind.cell) from if_pos hc]
      rw [List.lookup_cons] at h ⊢
      cases hx : x == n with
      | true => exact .inl rfl
      | false => rw [hx] at h; exact ih h
    · rw [show (match ((n, k) : Str × NameKind) with | (n, k) => if (k == NameKind.free && env.scope.kind == .function && env.kindOf n == some .cell) then (n, NameKind.cell) else (n, k)) = (n, k) from if_neg hc]
      rw [List.lookup_cons] at h ⊢
      cases hx : x == n with
      | true => rw [hx] at h; exact .inr h
      | false => rw [hx] at h; exact ih h
theorem relabel_mem {env : Env} : ∀ {names : List (Str × NameKind)} {x : Str} {k : NameKind}, k = .cell ∨ k = .free → (∀ y ∈ names, y.2 ≠ .cell) →
    (names.map fun (n, k) => if (k == NameKind.free && env.scope.kind == .function && env.kindOf n == some .cell) then (n, NameKind.cell) else (n, k)).lookup x = some k → (x, NameKind.free) ∈ names
  | [], _, _, _, _, h => by simp at h
  | (n, j) :: r, x, k, hk, hn, h => by
    have ih := @relabel_mem env r x k hk fun y hy => hn y (List.mem_cons_of_mem _ hy)
    rw [List.map_cons] at h
    by_cases hc : (j == NameKind.free && env.scope.kind == .function && env.kindOf n == some .cell) = true
    · rw [show (match ((n, j) : Str × NameKind) with | (n, k) => if (k == NameKind.free && env.scope.kind == .function && env.kindOf n == some .cell) then (n, NameKind.cell) else (n, k)) = (n, NameKind.cell) from if_pos hc] at h
      rw [List.lookup_cons] at h
      cases hx : x == n with
      | true =>
        have e : x = n := by simpa using hx
        have ej : j = .free := by
          simp only [Bool.and_eq_true, beq_iff_eq] at hc
          exact hc.1.1
        subst e ej
        exact List.mem_cons_self
      | false => rw [hx] at h; exact List.mem_cons_of_mem _ (ih h)
    · rw [show (match ((n, j) : Str × NameKind) with | (n, k) => if (k == NameKind.free && env.scope.kind == .function && env.kindOf n == some .cell) then (n, NameKind.cell) else (n, k)) = (n, j) from if_neg hc] at h
      rw [List.lookup_cons] at h
      cases hx : x == n with
      | true =>
        rw [hx] at h
        have e : x = n := by simpa using hx
        have ej : j = k := Option.some.inj h
        subst e ej
        rcases hk with hk | hk
        · exact absurd hk (hn _ List.mem_cons_self)
        · subst hk; exact List.mem_cons_self
      | false => rw [hx] at h; exact List.mem_cons_of_mem _ (ih h)
def cxC (X : Cx) (own outs : List Str) (scope : Scope) (C : Addr) (s2 : Shared) (H2 : Hp) (fp : List Addr) (pins : List (Addr × Obj)) : Cx where
  prog := X.prog
  w := X.w
  K := X.K
  mg := X.mg
  base := X.base
  A := X.A
  N := own ++ outs
  s₀ := s2
  H₀ := H2
  env := compEnvC scope (closL X.env scope.names []) C X.env
  outer := X.stack
  stack := X.stack
  ex := fp
  fn := fun _ => false
  calm := X.calm
  pn := X.pn ++ pins
  xe := fun _ _ => False
def PFs (X : Cx) (ifs : List Expr) (tt : TT) : Prop :=
  ∀ (pins : List (Addr × Obj)) (s : Shared) (σ : St) (H : Hp) (Q : Bool → Hp → Prop), Inv X pins σ H s → tt σ H Q →
    wpAny (model X.prog X.w) X.A (forIn ifs true fun c r => if r = true then do let ok ← isTrue c X.env (eval c X.env); pure (ForInStep.yield ok) else pure (ForInStep.yield r)) (TP X pins σ Q) X.xe s
def tYes : TT := fun _ H Q => Q true H
theorem pf_nil {X : Cx} : PFs X [] tYes := fun _ _ _ H _ I h => wpAny_tests_nil ⟨H, I, h⟩
def startC (k : Nat) (oix : List Nat) (σ : St) : St := List.replicate k none ++ oix.map fun j => (σ[j]?).join
def tTurns (k : Nat) (oix : List Nat) (g : TG) (tt : TT) (te : TE) (J : It) (σ : St) (H : Hp) (Q : VK) : Prop :=
  ∃ (n : Nat) (W : Nat → List V → Hp → Prop), W 0 [] H ∧ ∀ i ys H2, W i ys H2 →
    (J.stop i H2 ∧ ys.length ≤ sizeLine ∧ ∀ p, H2 p = none → Q (.ref p) (upd H2 p (.lst ys))) ∨
    (J.go i H2 ∧ i < n ∧ ys.length < sizeLine ∧ ∃ N : List V → Hp → Prop, (∀ ys' H', N ys' H' → W (i + 1) ys' H') ∧ ∀ x H3, J.yld i H2 x H3 → g x (startC k oix σ) H3 fun σ4 H4 => σ4.drop k = (startC k oix σ).drop k ∧
      tt σ4 H4 fun b H5 => if b = true then te σ4 H5 fun y H6 => N (ys ++ [y]) H6 else N ys H5)
def tComp (k : Nat) (oix : List Nat) (wi : TI) (g : TG) (tt : TT) (te : TE) : TE := fun σ H Q => wi σ H fun J H1 => tTurns k oix g tt te J σ H1 Q
def lobj (its : List Value) (n : Nat) : Obj := { cls := .type "list", data := .seq its.toArray n }
theorem HOk.track {P : Program} {w : World} {H : Hp} {h : Heap} {a : Addr} {o : HO} (x : HOk P w H h) (hn : H a = none) (new : ObjOk P w (upd H a o) h a o) : HOk P w (upd H a o) h := fun b u e => by
  by_cases hb : b = a
  · subst hb; rw [upd_same] at e; cases e; exact new
  · rw [upd_ne hb] at e
    exact (x b u e).stay (fun c v _ q => q) (fun c q => by rw [upd_ne (ne_of_none q hn)]; exact q) fun c xs q => by rw [upd_ne (ne_of_none q hn)]; exact q
theorem comp_core {X : Cx} {pins : List (Addr × Obj)} {σ : St} {H2 : Hp} {s2 : Shared} {tg elt iter : Expr} {ifs : List Expr} {scope : Scope} {pos : Pos} {J : It} {fp : List Addr} {it : Addr} {tn : Nat → Heap → Prop}
    {own outs : List Str} {oix : List Nat} {g : TG} {tt : TT} {te : TE} {Q : VK} {E : Value → Shared → Prop} {RR : Value → Addr → Result → Shared → Prop}
    (S : CompSc own outs scope X.env.scope) (hox : oix.map (fun j => X.N[j]?) = outs.map some) (hc : X.calm = true)
    (hg : ∀ C s2 H2 fp pins, PG (cxC X own outs scope C s2 H2 fp pins) tg g)
    (ht : ∀ C s2 H2 fp pins, PFs (cxC X own outs scope C s2 H2 fp pins) ifs tt)
    (he : ∀ C s2 H2 fp pins, PE (cxC X own outs scope C s2 H2 fp pins) elt te)
    (I2 : Inv X pins σ H2 s2) (T : Turn X.prog X.w X.K tg J fp it tn) (st : tn 0 s2.heap) (f2 : ∀ b ∈ fp, FpOk X pins H2 b)
    (h : tTurns own.length oix g tt te J σ H2 Q)
    (hRR : ∀ (C : Addr) (s' : Shared) (m : Str → Option Value) (H' : Hp), s'.heap.Ns C m → Inv X pins σ H' s' → H' C = none → C ≠ X.env.locals → X.s₀.heap.objs.size ≤ C →
      (∀ x c, X.env.cells.lookup x = some c → c ≠ C) → (∀ p ∈ X.pn ++ pins, p.1 ≠ C) → Q (.ref s2.heap.objs.size) H' → RR (.ref s2.heap.objs.size) C (.ok .next) s') :
    wpAny (model X.prog X.w) X.A (newList []) (fun acc s₃ => wpAny (model X.prog X.w) X.A (newFunctionEnv scope X.env.globals (closL X.env scope.names []) [] X.env.qual none .none (some X.env)) (fun cenv s₄ =>
      codeAny (model X.prog X.w) X.A (.compStart (.ListComp elt [⟨tg, iter, ifs, 0⟩] scope pos) 0 (.ref it) acc { cenv with scope := relabel scope X.env }) (RR acc cenv.locals) s₄) E s₃) E s2 := by
  obtain ⟨n, W, w0, turn⟩ := h
  refine wpAny_newObj_type (wpAny_newFunctionEnv S.nocell (by intro y hy; simp at hy) (fun h₁ hns₁ hsb₁ => ?_) S.kind)
  dsimp only at hns₁ hsb₁ ⊢
  generalize hP : s2.heap.push { cls := .type "list", dict := none, data := .seq ([] : List Value).toArray } = hp at hns₁ hsb₁ ⊢
  have hC : hp.objs.size = s2.heap.objs.size + 1 := by rw [← hP, Heap.size_push]
  generalize hCC : hp.objs.size = C at hns₁ hsb₁ hC ⊢
  have hDC : s2.heap.objs.size ≠ C := by rw [hC]; exact Nat.ne_of_lt (Nat.lt_succ_self _)
  have hDC' : s2.heap.objs.size < C := by rw [hC]; exact Nat.lt_succ_self _
  have old : ∀ b o, s2.heap.get? b = some o → h₁.get? b = some o := fun b o e =>
    hsb₁.extBut b o (Nat.ne_of_lt (Nat.lt_trans (Heap.lt_size e) hDC')) (Heap.get?_push_of_some _ (hP ▸ Heap.get?_push_of_some _ e))
  have hacc : h₁.get? s2.heap.objs.size = some (lobj [] 0) := hsb₁.extBut _ _ hDC (Heap.get?_push_of_some _ (hP ▸ Heap.get?_push_size _ rfl))
  -- the cells of the closure are cells of the frame
  have hcells : ∀ x ∈ scope.names, x.2 = .free → ∃ c, X.env.cells.lookup x.1 = some c := fun x hx hf => I2.ok.has x.1 (S.free x hx hf)
  have clX : ∀ x c, (closL X.env scope.names []).lookup x = some c → X.env.cells.lookup x = some c := fun x c e =>
    closL_mem scope.names [] hcells (fun p hp => by cases hp) (x, c) (PySem.mem_of_lookup e)
  have clHas : ∀ x, (x, NameKind.free) ∈ scope.names → ∃ c, (closL X.env scope.names []).lookup x = some c := fun x hx => by
    obtain ⟨c, hc⟩ := closL_has (env := X.env) scope.names [] x (.inl hx)
    exact lookup_has hc
  have fpLt : ∀ b ∈ fp, b < s2.heap.objs.size := fun b hb => by
    obtain ⟨o, e, _⟩ := T.obj 0 _ st b hb
    exact Heap.lt_size e
  have cLt : ∀ x c, X.env.cells.lookup x = some c → c < s2.heap.objs.size := fun x c e => by
    obtain ⟨v, q⟩ := I2.cell x c e
    exact q.lt
  have fpStk : ∀ b ∈ fp, b ∉ frs X.stack := fun b hb z => by
    rcases List.mem_cons.mp (I2.stkSub b z) with e | z
    · exact (f2 b hb).2.1 e
    · exact (f2 b hb).2.2.1 z
  have pinLt : ∀ p ∈ X.pn ++ pins, p.1 < s2.heap.objs.size := fun p hp => Heap.lt_size (I2.pin p hp).1
  have pinStk : ∀ p ∈ X.pn ++ pins, p.1 ∉ frs X.stack := fun p hp z => by
    rcases List.mem_cons.mp (I2.stkSub _ z) with e | z
    · exact (I2.pin p hp).2.2.1 e
    · exact (I2.pin p hp).2.2.2.1 z
  have fsLt : ∀ b ∈ frs X.stack, b < s2.heap.objs.size := fun b hb => by
    obtain ⟨_, o, ho, _⟩ := I2.stack.mem hb
    exact Heap.lt_size ho
  let Y : Cx := cxC X own outs scope C s2 H2 fp pins
  have okY : Y.Ok := {
    mod := I2.ok.mod
    kind := S.kind
    glob := I2.ok.glob
    blt := I2.ok.blt
    above := Nat.le_of_lt hDC'
    inj := fun x y c h1 h2 => I2.ok.inj x y c (clX x c h1) (clX y c h2)
    has := fun x hx => by
      refine clHas x ?_
      rcases hx with hx | hx
      · exact relabel_mem (env := X.env) (.inl rfl) S.nocell hx
      · exact relabel_mem (env := X.env) (.inr rfl) S.nocell hx
    cab := fun x c hf _ => absurd (show false = true from hf) Bool.false_ne_true
    hd := I2.ok.hd
    frames := I2.ok.frames
    stk := .inl rfl
    exf := fun b hb => ⟨Nat.ne_of_lt (Nat.lt_trans (fpLt b hb) hDC'), fun x c e => (f2 b hb).2.2.2.2.1 x c (clX x c e)⟩
    bs := I2.bs
    bsz := Nat.le_trans I2.ok.bsz I2.sz
    noex := fun b o e hb => by
      rcases (f2 b hb).2.2.2.1 with z | z
      · exact I2.ok.noex b o e z
      · exact absurd (Nat.lt_of_lt_of_le (Heap.lt_size e) (Nat.le_trans I2.ok.bsz z)) (Nat.lt_irrefl _)
    exfs := fpStk
    funs := I2.stack
    frf := I2.stkFree }
  have hCH : ∀ H' : Hp, HOk X.prog X.w H' h₁ → True := fun _ _ => trivial
  have lenS : (startC own.length oix σ).length = Y.N.length := by
    have e := congrArg List.length hox
    simp only [List.length_map] at e
    show (List.replicate own.length none ++ oix.map _).length = (own ++ outs).length
    rw [List.length_append, List.length_append, List.length_replicate, List.length_map, e]
  have I4 : Inv Y [(s2.heap.objs.size, lobj [] 0)] (startC own.length oix σ) H2 { s2 with heap := h₁ } := {
    ok := okY
    os := rfl
    bare := I2.bare
    base := Un.kept old
    loc := by
      refine ⟨_, hns₁, fun i x v e1 e2 e3 => ?_⟩
      -- an outer name
      have hi : own.length ≤ i := by
        apply Nat.le_of_not_lt
        intro hlt
        unfold startC at e2
        rw [List.getElem?_append_left (by rw [List.length_replicate]; exact hlt), List.getElem?_replicate] at e2
        rw [if_pos hlt] at e2
        cases e2
      unfold startC at e2
      rw [List.getElem?_append_right (by rw [List.length_replicate]; exact hi), List.length_replicate, List.getElem?_map] at e2
      have e1' : outs[i - own.length]? = some x := by
        have e1 : (own ++ outs)[i]? = some x := e1
        rwa [List.getElem?_append_right hi] at e1
      cases ej : oix[i - own.length]? with
      | none => rw [ej] at e2; cases e2
      | some j =>
        rw [ej] at e2
        have e2' : (σ[j]?).join = some v := Option.some.inj e2
        have e2'' : σ[j]? = some (some v) := by
          cases eσ : σ[j]? with
          | none => rw [eσ] at e2'; cases e2'
          | some z => rw [eσ] at e2'; exact congrArg some e2'
        have eN : X.N[j]? = some x := by
          have q := congrArg (fun l => l[i - own.length]?) hox
          simp only [List.getElem?_map, ej, e1', Option.map_some] at q
          exact Option.some.inj q
        have hfree : scope.names.lookup x = some .free := S.out x (List.mem_of_getElem? e1')
        have hmem : (x, NameKind.free) ∈ scope.names := PySem.mem_of_lookup hfree
        have hk : X.env.scope.names.lookup x = some .cell ∨ X.env.scope.names.lookup x = some .free := S.free (x, .free) hmem rfl
        obtain ⟨m, hn, hl⟩ := I2.loc
        obtain ⟨u, r, l⟩ := hl j x v eN e2'' (by rcases hk with hk | hk; exact .inr (.inl hk); exact .inr (.inr hk))
        refine ⟨u, r, .inr ⟨relabel_free (env := X.env) hfree, ?_⟩⟩
        obtain ⟨c, ec⟩ := clHas x hmem
        refine ⟨c, ec, ?_⟩
        have ec' := clX x c ec
        rcases l with ⟨k, _⟩ | ⟨_, c', e', o, ho, hd⟩
        · rcases hk with hk | hk
          · exact absurd (k.symm.trans hk) (by decide)
          · exact absurd (k.symm.trans hk) (by decide)
        · rw [ec'] at e'
          cases e'
          exact ⟨o, old _ _ ho, hd⟩
    cell := fun x c e => by
      obtain ⟨v, o, ho, hd⟩ := I2.cell x c (clX x c e)
      exact ⟨v, o, old _ _ ho, hd⟩
    free := I2.hok.fresh (Nat.le_of_lt hDC')
    freeC := fun x c e => I2.freeC x c (clX x c e)
    pin := fun p hp => by
      rcases List.mem_append.mp hp with hp | hp
      · obtain ⟨e, n, _, _, d⟩ := I2.pin p hp
        exact ⟨old _ _ e, n, Nat.ne_of_lt (Nat.lt_trans (pinLt p hp) hDC'), pinStk p hp, d⟩
      · have e : p = (s2.heap.objs.size, lobj [] 0) := by simpa using hp
        subst e
        refine ⟨hacc, I2.hok.fresh (Nat.le_refl _), hDC, fun z => absurd (fsLt _ z) (Nat.lt_irrefl _), fun v z => ?_⟩
        have z' : Data.seq _ _ = Data.cell v := z
        cases z'
    hok := I2.hok.kept old
    len := lenS }
  -- what stays of the iterator's records
  have fpY : ∀ {H' : Hp} {its : List Value} {k : Nat}, (∀ b ∈ fp, H' b = none) → ∀ b ∈ fp, FpOk Y [(s2.heap.objs.size, lobj its k)] H' b := fun {H' its k} hn b hb => by
    refine ⟨hn b hb, Nat.ne_of_lt (Nat.lt_trans (fpLt b hb) hDC'), fpStk b hb, .inl hb, fun x c e => (f2 b hb).2.2.2.2.1 x c (clX x c e), fun p hp => ?_⟩
    rcases List.mem_append.mp hp with hp | hp
    · exact (f2 b hb).2.2.2.2.2 p hp
    · have e : p = (s2.heap.objs.size, lobj its k) := by simpa using hp
      subst e
      exact Nat.ne_of_gt (fpLt b hb)
  -- the end
  have fin : ∀ (i : Nat) (ys : List V) (its : List Value) (k : Nat) (H' : Hp) (s' : Shared), Inv Y [(s2.heap.objs.size, lobj its k)] (startC own.length oix σ) H' s' → Vals ys its → ys.length ≤ sizeLine →
      Q (.ref s2.heap.objs.size) (upd H' s2.heap.objs.size (.lst ys)) → RR (.ref s2.heap.objs.size) C (.ok .next) s' := fun i ys its k H' s' I' rv hz q => by
    obtain ⟨m, hn, _⟩ := I'.loc
    obtain ⟨eD, nD, _⟩ := I'.pin (s2.heap.objs.size, lobj its k) (List.mem_append_right _ (by simp))
    have un : Un (frs X.stack) fp H2 H' s2.heap s'.heap := I'.base
    have neD : ∀ b o, s2.heap.get? b = some o → b ≠ s2.heap.objs.size := fun b o e => Nat.ne_of_lt (Heap.lt_size e)
    have neH : ∀ b o, H2 b = some o → b ≠ s2.heap.objs.size := fun b o e => Nat.ne_of_lt (I2.hok.lt e)
    have un' : Un (frs X.stack) fp H2 (upd H' s2.heap.objs.size (.lst ys)) s2.heap s'.heap :=
      ⟨un.keep, un.slot, fun b o e n hx => by rw [upd_ne (neD b o e)]; exact un.free b o e n hx, un.there, fun b xs e => by rw [upd_ne (neH b _ e)]; exact un.tups b xs e,
        fun b o u e => by rw [upd_ne (neH b _ e)]; exact un.frzs b o u e, fun b ps e => by rw [upd_ne (neH b _ e)]; exact un.tbls b ps e⟩
    have hok' : HOk X.prog X.w (upd H' s2.heap.objs.size (.lst ys)) s'.heap := HOk.track I'.hok nD ⟨hz, its, k, rv, eD⟩
    have IX : Inv X pins σ (upd H' s2.heap.objs.size (.lst ys)) s' := I2.call' (ch := fp) I'.os un' hok' I'.bare fun b hb => ⟨(f2 b hb).2.2.2.1, (f2 b hb).2.1, (f2 b hb).2.2.2.2.1, (f2 b hb).2.2.2.2.2⟩
    refine hRR C s' m _ hn IX ?_ ?_ ?_ ?_ ?_ q
    · rw [upd_ne (Ne.symm hDC)]; exact I'.free
    · exact Nat.ne_of_gt (Nat.lt_trans I2.lt hDC')
    · exact Nat.le_trans I2.sz (Nat.le_of_lt hDC')
    · exact fun x c e => Nat.ne_of_lt (Nat.lt_trans (cLt x c e) hDC')
    · exact fun p hp => Nat.ne_of_lt (Nat.lt_trans (pinLt p hp) hDC')
  have loop : codeAny (model X.prog X.w) X.A (.compLoop (.ListComp elt [⟨tg, iter, ifs, 0⟩] scope pos) 0 (.ref it) (.ref s2.heap.objs.size) Y.env) (RR (.ref s2.heap.objs.size) C) { s2 with heap := h₁ } := by
    refine codeAny_loop rfl (fun k s' => ∃ (i : Nat) (ys : List V) (its : List Value) (c : Nat) (H' : Hp), Inv Y [(s2.heap.objs.size, lobj its c)] (startC own.length oix σ) H' s' ∧ Vals ys its ∧ tn i s'.heap ∧ (∀ b ∈ fp, H' b = none) ∧ W i ys H' ∧ k = n - i) (fun k s' hI => ?_) n
      ⟨0, [], [], 0, H2, I4, .nil, T.keep 0 _ _ st fun b _ o e => old b o e, fun b hb => (f2 b hb).1, w0, rfl⟩
    show wpAny _ X.A ((compTurn (.ListComp elt [⟨tg, iter, ifs, 0⟩] scope pos) 0 (.ref it) (.ref s2.heap.objs.size) Y.env).onRaise (fun x => do noteFrame x Y.env; theTreesLotGoes x)) _ _ s'
    refine wpAny_noted ?_
    rw [compTurn_list]
    obtain ⟨i, ys, its, c, H', I', rv, st', fr', w', ek⟩ := hI
    rcases turn i ys H' w' with ⟨stop, hz, q⟩ | ⟨go, hin, hz, N, hN, step⟩
    · refine wpAny_bind (wpAny_standAt (wpAny_bind (thn (T.done Y rfl rfl rfl hc i _ s' _ H' _ I' (fpY fr') st' stop) fun r s1 ⟨hr, I1⟩ => ?_)))
      subst hr
      obtain ⟨_, nD, _⟩ := I1.pin (s2.heap.objs.size, lobj its c) (List.mem_append_right _ (by simp))
      exact wpAny_pure (fin i ys its c H' s1 I1 rv hz (q _ nD))
    · refine wpAny_bind (wpAny_standAt (wpAny_bind (thn (T.item Y rfl rfl rfl hc i _ s' _ H' _ I' (fpY fr') st' go) fun r s1 ⟨u, hr, h1⟩ => ?_)))
      subst hr
      refine wpAny_bind (thn h1 fun _ s5 ⟨x, H5, I5, r5, y5, st5, fr5⟩ => ?_)
      have I5' := I5.pinned (fpY fr5) (T.obj _ _ st5)
      refine wpAny_bind (wpAny_noRaise (thn (hg C s2 H2 fp pins _ s5 _ H5 x u _ I5' r5 (step x H5 y5)) fun _ s6 ⟨σ6, H6, I6, dr6, q6⟩ => ?_))
      refine wpAny_bind (wpAny_noRaise (thn (ht C s2 H2 fp pins _ s6 σ6 H6 _ I6 q6) fun ok s7 ⟨H7, I7, q7⟩ => ?_))
      -- back to the begin of a turn
      have back : ∀ {H8 : Hp} {s8 : Shared} {its8 : List Value} {c8 : Nat}, Inv Y ([(s2.heap.objs.size, lobj its8 c8)] ++ pinsAt fp s5.heap) σ6 H8 s8 →
          Inv Y [(s2.heap.objs.size, lobj its8 c8)] (startC own.length oix σ) H8 s8 ∧ tn (i + 1) s8.heap ∧ ∀ b ∈ fp, H8 b = none := fun {H8 s8 its8 c8} I8 => by
        refine ⟨I8.unpinned.weak ?_ fun j v e => ?_, T.keep _ _ _ st5 fun b hb o e => (I8.pin (b, o) (List.mem_append_right _ (List.mem_append_right _ (mem_pinsAt hb e)))).1, fun b hb => ?_⟩
        · exact lenS.trans I8.len.symm
        · have hj : own.length ≤ j := by
            apply Nat.le_of_not_lt
            intro hlt
            unfold startC at e
            rw [List.getElem?_append_left (by rw [List.length_replicate]; exact hlt), List.getElem?_replicate] at e
            rw [if_pos hlt] at e
            cases e
          have e' := congrArg (fun l => l[j - own.length]?) dr6
          simp only [List.getElem?_drop] at e'
          rw [show own.length + (j - own.length) = j by omega] at e'
          exact e'.trans e
        · obtain ⟨o, e, d⟩ := T.obj _ _ st5 b hb
          exact (I8.pin (b, o) (List.mem_append_right _ (List.mem_append_right _ (mem_pinsAt hb e)))).2.1
      cases ok with
      | false =>
        obtain ⟨I8, st8, fr8⟩ := back I7
        exact wpAny_pure ⟨rfl, n - (i + 1), by omega, i + 1, ys, its, c, H7, I8, rv, st8, fr8, hN _ _ q7, rfl⟩
      | true =>
        refine wpAny_bind (wpAny_bind (wpAny_noRaise (thn (he C s2 H2 fp pins _ s7 σ6 H7 _ I7 q7) fun y s8 ⟨z, H8, I8, r8, w8⟩ => ?_)))
        obtain ⟨eD, nD, neL, nF, dD⟩ := I8.pin (s2.heap.objs.size, lobj its c) (List.mem_append_right _ (List.mem_append_left _ (by simp)))
        have hl := rv.length
        refine wpAny_bind (call_meets F.slot_list_append ⟨_, eD, rfl⟩ F.entry_list_append (F.args_list_append_2 _ _) (PySem.list_append _ its.toArray c y (by rw [List.size_toArray]; omega)) ⟨eD, ?_⟩)
        obtain ⟨n', q⟩ : ∃ n', (s8.heap.update s2.heap.objs.size (Obj.mapSeq (·.push y))).get? s2.heap.objs.size = some (lobj (its ++ [y]) n') := by
          have q := PySem.IsL.update eD (·.push y)
          rw [show its.toArray.push y = (its ++ [y]).toArray by simp] at q
          exact ⟨_, q⟩
        have I9 : Inv Y (pinsAt fp s5.heap) σ6 H8 { s8 with heap := s8.heap.update s2.heap.objs.size (Obj.mapSeq (·.push y)) } :=
          (I8.pins_of fun p hp => I8.pin p (List.mem_append_right _ (List.mem_append_right _ hp))).turned (t' := s8.toks) (it := s2.heap.objs.size) (fun b o hb e => (Heap.get?_update_other _ _ (Ne.symm hb)).trans e) nD hDC (.inr (Nat.le_refl _))
            (fun x c' e => Nat.ne_of_lt (cLt x c' (clX x c' e))) fun p hp => by
              rcases List.mem_append.mp hp with hp | hp
              · exact Nat.ne_of_lt (pinLt p hp)
              · exact Nat.ne_of_lt (fpLt _ (of_pinsAt hp).1)
        have I10 : Inv Y ([(s2.heap.objs.size, lobj (its ++ [y]) n')] ++ pinsAt fp s5.heap) σ6 H8 { s8 with heap := s8.heap.update s2.heap.objs.size (Obj.mapSeq (·.push y)) } := I9.pins_of fun p hp => by
          rcases List.mem_append.mp hp with hp | hp
          · have e : p = (s2.heap.objs.size, lobj (its ++ [y]) n') := by simpa using hp
            subst e
            exact ⟨q, nD, neL, nF, fun v z => by
              have z' : Data.seq _ _ = Data.cell v := z
              cases z'⟩
          · exact I9.pin p (List.mem_append_right _ hp)
        obtain ⟨I11, st11, fr11⟩ := back I10
        exact wpAny_pure (wpAny_pure ⟨rfl, n - (i + 1), by omega, i + 1, ys ++ [z], its ++ [y], _, H8, I11, rv.append (.cons r8 .nil), st11, fr11, hN _ _ w8, rfl⟩)
  exact codeAny_compStart_list loop (T.self _ 0 _ _ _ (T.keep 0 _ _ st fun b _ o e => old b o e) loop)
section
variable {X : Cx} {tg elt iter : Expr} {ifs : List Expr} {scope : Scope} {pos : Pos} {oix : List Nat} {wi : TI} {g : TG} {tt : TT} {te : TE}
theorem pe_comp (own outs : List Str) (oix : List Nat) (S : CompSc own outs scope X.env.scope) (hox : oix.map (fun j => X.N[j]?) = outs.map some) (hc : X.calm = true) (hi : PI X tg iter wi)
    (hg : ∀ C s2 H2 fp pins, PG (cxC X own outs scope C s2 H2 fp pins) tg g)
    (ht : ∀ C s2 H2 fp pins, PFs (cxC X own outs scope C s2 H2 fp pins) ifs tt)
    (he : ∀ C s2 H2 fp pins, PE (cxC X own outs scope C s2 H2 fp pins) elt te)
    (hs : ∀ x, foldedSetIterable iter X.env x = pure x := by intro _; rfl) :
    PE X (.ListComp elt [⟨tg, iter, ifs, 0⟩] scope pos) (tComp own.length oix wi g tt te) := by
  intro pins s σ H Q I h
  rw [eval_ListComp]
  refine wpAny_comprehension_free (use := none) rfl hs (closureFor_eq fun x hx hf => I.ok.has x.1 (S.free x hx hf)) S.kind S.loc (thn (hi pins s σ H _ I h) fun xv s₁ h₁ => thn h₁ fun itv s₂ h₂ => ?_)
  obtain ⟨it, fp, tn, J, H2, e, I2, T, st2, f2, turns⟩ := h₂
  subst e
  refine comp_core (RR := fun acc C => compPost (model X.prog X.w) X.A X.xe none (EP X pins σ Q) acc C) S hox hc hg ht he I2 T st2 f2 turns ?_
  intro C s' m H' hn I' hC hL h0 hcell hpin q
  exact ⟨m, hn, fun h' hs' => ⟨.ref _, H', I'.turned (h' := h') (t' := s'.toks) (it := C) (fun b o hb e => hs'.extBut b o hb e) hC hL (.inr h0) hcell hpin, rfl, q⟩⟩
theorem ps_setComp (own outs : List Str) (oix : List Nat) {i : Nat} {x : Str} {pos' spos : Pos} (S : CompSc own outs scope X.env.scope) (hox : oix.map (fun j => X.N[j]?) = outs.map some) (hc : X.calm = true)
    (hN : X.N.Nodup) (hix : X.N[i]? = some x) (hx : X.env.scope.names.lookup x = some .local) (hi : PI X tg iter wi)
    (hg : ∀ C s2 H2 fp pins, PG (cxC X own outs scope C s2 H2 fp pins) tg g)
    (ht : ∀ C s2 H2 fp pins, PFs (cxC X own outs scope C s2 H2 fp pins) ifs tt)
    (he : ∀ C s2 H2 fp pins, PE (cxC X own outs scope C s2 H2 fp pins) elt te)
    (hsw : swapsWith (.ListComp elt [⟨tg, iter, ifs, 0⟩] scope pos) (some (.Name x pos')) spos.line X.env = pure true := by rfl)
    (hs : ∀ x, foldedSetIterable iter X.env x = pure x := by intro _; rfl) :
    PS X (.Assign [.Name x pos'] (.ListComp elt [⟨tg, iter, ifs, 0⟩] scope pos) spos) (tAsg (tComp own.length oix wi g tt te) (gName i)) := by
  intro pins s σ H D I h
  rw [exec_Assign_Name_used _ _ _ _ hsw]
  refine wpAny_bind (wpAny_standAt (wpAny_bind ?_))
  show wpAny _ X.A (do let _ ← comprehension (.ListComp elt [⟨tg, iter, ifs, 0⟩] scope pos) scope X.env _ (newList []) false (eval iter X.env) (some (assign (.Name x pos') X.env))) _ _ s
  refine wpAny_bind (wpAny_mono (wpAny_comprehension_free (use := some (assign (.Name x pos') X.env)) (Q := fun _ s' => SP X pins D .next s') rfl hs (closureFor_eq fun y hy hf => I.ok.has y.1 (S.free y hy hf)) S.kind S.loc
    (thn (hi pins s σ H _ I h) fun xv s₁ h₁ => thn h₁ fun itv s₂ h₂ => ?_)) (fun _ s' hq => wpAny_pure (wpAny_pure hq)) fun _ _ e => e)
  obtain ⟨it, fp, tn, J, H2, e, I2, T, st2, f2, turns⟩ := h₂
  subst e
  refine comp_core (RR := fun acc C => compPost (model X.prog X.w) X.A X.xe (some (assign (.Name x pos') X.env)) (fun _ s' => SP X pins D .next s') acc C) S hox hc hg ht he I2 T st2 f2 turns ?_
  intro C s' m H' hn I' hC hL h0 hcell hpin q
  show wpAny _ X.A (assign (.Name x pos') X.env (.ref s₂.heap.objs.size)) _ _ s'
  refine wpAny_assign_Name (store_ok2 (v := .ref s₂.heap.objs.size) I' hN hix (.inl hx) rfl (fun s'' I'' hsb => ?_) (.inr hx))
  obtain ⟨a, hsb, ha⟩ := hsb
  have hCa : C ≠ a := by
    rcases ha with e | e
    · rw [e]; exact hL
    · exact Ne.symm (hcell _ _ e)
  exact ⟨m, hn.sameBut hsb hCa, fun h' hs' => ⟨_, H', I''.turned (h' := h') (t' := s''.toks) (it := C) (fun b o hb e => hs'.extBut b o hb e) hC hL (.inr h0) hcell hpin, q⟩⟩
end
section
variable {K : PySem.W.Frag} {k : Nat} {oix : List Nat} {g : TG} {tt : TT} {te : TE} {σ : St} {H : Hp} {Q : VK}
end
def Its (x : Str) : It := ⟨fun i _ => i < x.cps.size, fun i H v H' => H' = H ∧ ∃ c, x.cps[i]? = some c ∧ v = .str ⟨#[c]⟩, fun i _ => x.cps.size ≤ i⟩
theorem turn_ascii {P : Program} {w : World} {K : PySem.W.Frag} {tg : Expr} (it : Addr) (x : Str) (t : Tok) : Turn P w K tg (Its x) [it] it (fun i h => h.IsStrIter it "str_ascii_iterator" x t i) where
  mem := by simp
  obj := fun i h st b hb => by
    have e : b = it := by simpa using hb
    subst e
    obtain ⟨o, e, c, d⟩ := st
    exact ⟨o, e, fun v z => by rw [d] at z; cases z⟩
  keep := fun i h h' st k => by
    obtain ⟨o, e, r⟩ := st
    exact ⟨o, k it (by simp) o e, r⟩
  item := by
    intro X hP hw hK hc i pins s σ H E I hf st hg
    subst hP hw hK
    obtain ⟨f0, f1, f2, f3, f4, f5⟩ := hf it (by simp)
    have hg' : i < x.cps.size := hg
    refine wpAny_pyNext_ascii_item st (c := x.cps[i]) (by simp [hg']) fun h' st' sb => ?_
    have I1 : Inv X pins σ H { s with heap := h', toks := s.toks + 1 } := I.turned (t' := s.toks + 1) (fun b o hb e => (sb.2 b hb).trans e) f0 f1 f3 f4 f5
    obtain ⟨o, e, c, d⟩ := id st'
    exact ⟨_, rfl, go_of (s := { s with heap := h', toks := s.toks + 1 }) e c d (by decide) ⟨.str ⟨#[x.cps[i]]⟩, H, I1, ⟨_, rfl⟩, ⟨rfl, _, by simp [hg'], rfl⟩, st', fun b hb => (hf b hb).1⟩⟩
  done := by
    intro X hP hw hK hc i pins s σ H E I hf st hg
    subst hP hw hK
    obtain ⟨f0, f1, f2, f3, f4, f5⟩ := hf it (by simp)
    have hg' : x.cps.size ≤ i := hg
    exact wpAny_pyNext_ascii_end (I.ok.hd hc) st (by simp [hg']) fun h' eb => ⟨rfl, I.turned (t' := s.toks) (fun b o hb e => eb b o hb e) f0 f1 f3 f4 f5⟩
  self := fun _ _ _ _ _ st h => wpAny_pyIter_striter_ascii st h
theorem turn_wide {P : Program} {w : World} {K : PySem.W.Frag} {tg : Expr} (it : Addr) (x : Str) (t : Tok) : Turn P w K tg (Its x) [it] it (fun i h => h.IsStrIter it "str_iterator" x t i) where
  mem := by simp
  obj := fun i h st b hb => by
    have e : b = it := by simpa using hb
    subst e
    obtain ⟨o, e, c, d⟩ := st
    exact ⟨o, e, fun v z => by rw [d] at z; cases z⟩
  keep := fun i h h' st k => by
    obtain ⟨o, e, r⟩ := st
    exact ⟨o, k it (by simp) o e, r⟩
  item := by
    intro X hP hw hK hc i pins s σ H E I hf st hg
    subst hP hw hK
    obtain ⟨f0, f1, f2, f3, f4, f5⟩ := hf it (by simp)
    have hg' : i < x.cps.size := hg
    refine wpAny_pyNext_wide_item st (c := x.cps[i]) (by simp [hg']) fun h' st' sb => ?_
    have I1 : Inv X pins σ H { s with heap := h', toks := s.toks + 1 } := I.turned (t' := s.toks + 1) (fun b o hb e => (sb.2 b hb).trans e) f0 f1 f3 f4 f5
    obtain ⟨o, e, c, d⟩ := id st'
    exact ⟨_, rfl, go_of (s := { s with heap := h', toks := s.toks + 1 }) e c d (by decide) ⟨.str ⟨#[x.cps[i]]⟩, H, I1, ⟨_, rfl⟩, ⟨rfl, _, by simp [hg'], rfl⟩, st', fun b hb => (hf b hb).1⟩⟩
  done := by
    intro X hP hw hK hc i pins s σ H E I hf st hg
    subst hP hw hK
    obtain ⟨f0, f1, f2, f3, f4, f5⟩ := hf it (by simp)
    have hg' : x.cps.size ≤ i := hg
    exact wpAny_pyNext_wide_end (I.ok.hd hc) st (by simp [hg']) fun h' eb => ⟨rfl, I.turned (t' := s.toks) (fun b o hb e => eb b o hb e) f0 f1 f3 f4 f5⟩
  self := fun _ _ _ _ _ st h => wpAny_pyIter_striter_wide st h
section
variable {X : Cx} {tg : Expr}
def iStr (tl : TE) : TI := fun σ H R => tl σ H fun v H1 => ∃ x, v = .str x ∧ R (Its x) H1
theorem pi_str {l : Expr} {tl : TE} (hl : PE X l tl) : PI X tg l (iStr tl) := by
  intro pins s σ H R I h
  refine thn (hl pins s σ H _ I h) fun v s1 ⟨y, H1, I1, r1, q1⟩ => ?_
  obtain ⟨x, e, q⟩ := q1
  subst e
  obtain ⟨t, rfl⟩ := r1
  have fp : ∀ {o : Obj} (b : Addr), b ∈ [s1.heap.objs.size] → FpOk X pins H1 b := fun {o} b hb => by
    have e : b = s1.heap.objs.size := by simpa using hb
    subst e
    exact I1.fpOk (Nat.le_refl _) (I1.hok.fresh (Nat.le_refl _))
  cases ha : x.cps.all (· < 128)
  · exact wpAny_pyIter_wide ha ⟨s1.heap.objs.size, [s1.heap.objs.size], _, _, H1, rfl, I1.kept (t' := s1.toks) fun b o e => Heap.get?_push_of_some _ e, turn_wide _ x t, ⟨_, Heap.get?_push_size _ rfl, rfl, rfl⟩, fp (o := default), q⟩
  · exact wpAny_pyIter_ascii ha ⟨s1.heap.objs.size, [s1.heap.objs.size], _, _, H1, rfl, I1.kept (t' := s1.toks) fun b o e => Heap.get?_push_of_some _ e, turn_ascii _ x t, ⟨_, Heap.get?_push_size _ rfl, rfl, rfl⟩, fp (o := default), q⟩
end
end L2
set_option Elab.async false
set_option linter.all false
set_option maxRecDepth 100000
set_option maxHeartbeats 4000000
namespace L2
open PySem PySem.Spec PyProof.Rows
section
variable {X : Cx}
end
section
variable {X : Cx}
def rSlS : V → Option Int → Option Int → Hp → VK → Prop := fun x lo hi H Q => ∃ z, x = .str z ∧ z.length ≤ sizeLine ∧ Q (.str (Txt.slice z lo hi)) H
theorem sl_str : SlR X rSlS := by
  intro pins s σ H x v vl vu lo hi sl Q I rx hs pl pu h
  obtain ⟨z, rfl, hz, q⟩ := h
  obtain ⟨t, rfl⟩ := rx
  refine ⟨"str", _, PySem.F.slot_str_getitem.lookup, typeIs_str s z t, ?_⟩
  cases pl with
  | none =>
    cases pu with
    | none => exact wpAny_getItem_str_slice (l := none) (u := none) (st := none) hs rfl (post_val_or_str ⟨Nat.le_trans (Txt.slice_le z _ _) hz, fun t' k => ⟨.str (Txt.slice z none none), H, I.tok _, ⟨_, rfl⟩, q⟩⟩)
    | int j uj => exact wpAny_getItem_str_slice (l := none) (u := some (j, uj)) (st := none) hs rfl (post_val_or_str ⟨Nat.le_trans (Txt.slice_le z _ _) hz, fun t' k => ⟨.str (Txt.slice z none (some j)), H, I.tok _, ⟨_, rfl⟩, q⟩⟩)
  | int i ui =>
    cases pu with
    | none => exact wpAny_getItem_str_slice (l := some (i, ui)) (u := none) (st := none) hs rfl (post_val_or_str ⟨Nat.le_trans (Txt.slice_le z _ _) hz, fun t' k => ⟨.str (Txt.slice z (some i) none), H, I.tok _, ⟨_, rfl⟩, q⟩⟩)
    | int j uj => exact wpAny_getItem_str_slice (l := some (i, ui)) (u := some (j, uj)) (st := none) hs rfl (post_val_or_str ⟨Nat.le_trans (Txt.slice_le z _ _) hz, fun t' k => ⟨.str (Txt.slice z (some i) (some j)), H, I.tok _, ⟨_, rfl⟩, q⟩⟩)
def rFind : V → List V → Hp → VK → Prop := fun x vs H Q => ∃ z y, x = .str z ∧ vs = [.str y] ∧ Q (.int (Txt.find z y)) H
theorem mt_find : MtR X "str.find" rFind := by
  intro pins s σ H x vs v us Q I rx rv h
  obtain ⟨z, y, rfl, rfl, q⟩ := h
  obtain ⟨t, rfl⟩ := rx
  obtain ⟨u, rfl, t', rfl⟩ := vals1 rv
  exact SC.find ⟨.int _, H, I.tok _, ⟨_, rfl⟩, q⟩
theorem strsAre_of {zs : List Str} : ∀ {us : List Value}, Vals (zs.map V.str) us → StrsAre us zs := by
  induction zs with
  | nil => intro us r; rw [List.map_nil] at r; cases r; exact .nil
  | cons n ns ih =>
    intro us r
    rw [List.map_cons] at r
    cases r with
    | cons r1 r2 =>
      obtain ⟨t, e⟩ := r1
      subst e
      exact .cons n t (ih r2)
def rJoin (K : PySem.W.Frag) : V → List V → Hp → VK → Prop := fun x vs H Q => ∃ z a zs, x = .str z ∧ vs = [.ref a] ∧ SqL K H a (zs.map V.str) ∧ (zs.map (·.length)).sum + zs.length * z.length ≤ 16777216 ∧ Q (.str (Txt.join z zs)) H
theorem mt_join : MtR X "str.join" (rJoin X.K) := by
  intro pins s σ H x vs v us Q I rx rv h
  obtain ⟨z, a, zs, rfl, rfl, hq, hz, q⟩ := h
  obtain ⟨t, rfl⟩ := rx
  obtain ⟨u, rfl, ru⟩ := vals1 rv
  cases ru
  obtain ⟨its, r, pl, _⟩ := I.list hq
  exact join_list (items := its.toArray) pl.isList (strsAre_of r) hz fun t' k => ⟨.str _, H, I.tok _, ⟨_, rfl⟩, q⟩
end
theorem boolsAre_of {bs : List Bool} : ∀ {us : List Value}, Vals (bs.map V.bl) us → LSm.BoolsAre us bs := by
  induction bs with
  | nil => intro us r; rw [List.map_nil] at r; cases r; exact .nil
  | cons n ns ih =>
    intro us r
    rw [List.map_cons] at r
    cases r with
    | cons r1 r2 =>
      have e : _ = Value.bool n := r1
      subst e
      exact .cons n (ih r2)
section
variable {X : Cx}
theorem call_all (hc : X.calm = true) : CallR X (.builtin "all") (fun xs H Q => ∃ (a : Addr) (bs : List Bool), xs = [.ref a] ∧ SqL X.K H a (bs.map V.bl) ∧ Q (.bl (bs.all id)) H) := by
  intro pins s σ H xs us Q I r h
  obtain ⟨a, bs, rfl, hq, q⟩ := h
  obtain ⟨u, rfl, ru⟩ := vals1 r
  cases ru
  obtain ⟨its, rv, pl, hz⟩ := I.list hq
  have hb := boolsAre_of rv
  have hl := pl.isList
  have hlt : a < s.heap.objs.size := by obtain ⟨_, e, _⟩ := hl; exact Heap.lt_size e
  refine call_all_walk (wpAny_pyIter_list hl ?_)
  refine ⟨s.heap.objs.size, [s.heap.objs.size, a], [s.heap.objs.size], its.toArray.size, _, _, fun i => (bs[i]?).getD true, rfl, Walks.list (A := X.A.in1) (I.ok.hd hc) _ a (Nat.ne_of_lt hlt) its.toArray,
    ⟨⟨_, Heap.get?_push_size _ rfl, rfl, rfl⟩, hl.push _⟩, fun i v s' Q' E' hP hQ => ?_, fun h' tk hk => ⟨.bl _, H, I.kept (LSm.kept_iter hk), rfl, ?_⟩⟩
  · obtain ⟨b, e, rfl⟩ := hb.get i v (by simpa using hP)
    simp only [e, Option.getD_some] at hQ
    exact wpAny_truthy_bool hQ
  · have e : ((List.range its.toArray.size).all fun i => (bs[i]?).getD true) = bs.all id := by
      rw [List.size_toArray, hb.length]; exact LSm.range_all bs
    rw [e]
    exact q
end
section
open PySem.SeqAt
inductive LtAt (A : Around) (s : Shared) : List Value → List Value → Bool → Prop where
  | nn : LtAt A s [] [] false
  | nc {w ws} : LtAt A s [] (w :: ws) true
  | cn {v vs} : LtAt A s (v :: vs) [] false
  | eq {v w vs ws b} : EqAt A s v w true → LtAt A s vs ws b → LtAt A s (v :: vs) (w :: ws) b
  | ne {v w vs ws b} : EqAt A s v w false → (∀ (prog : Program) (wo : World) (E Q : Value → Shared → Prop), Q (.bool b) s → wpAny (model prog wo) A (richCompare .Lt v w) Q E s) → LtAt A s (v :: vs) (w :: ws) b
end
section
open PySem.SeqAt
open PySem.AutoSeq1 (wpAny_loadPart')
open PySem.MeetsSeq PySem.MeetsSeq2 PySem.MeetsSeq3
theorem tuple_lt_by (l b : Addr) (items items2 : Array Value) (n n2 : Nat) (dd dd2 : Option Addr) (sl sl2 : Array (Option Value)) (r : Bool) :
    Meets (Builtin.«tuple.__lt__» ⟨[.ref l, .ref b], []⟩)
      (fun A R s => s.heap.get? l = some { cls := .type "tuple", dict := dd, data := .seq items n, slots := sl } ∧ s.heap.get? b = some { cls := .type "tuple", dict := dd2, data := .seq items2 n2, slots := sl2 } ∧
        LtAt A.in1 s items.toList items2.toList r ∧ R (.ok (.ret (.bool r))) s) :=
  .of_wp fun prog w A R s h => by
    obtain ⟨hp, g, d, tk, os⟩ := s; obtain ⟨hl, hb, hlt, h⟩ := h
    have f2 := AutoSeq1.sub_tuple_tuple
    wp_walk using wpAny_loadPart' hl, wpAny_loadPart' hb, wpAny_forIn_list _ (fun rest b s' => b.1 = none ∧ s' = ⟨hp, g, d, tk, os⟩ ∧ ∃ (vs ws : List Value), rest = vs.zip ws ∧
      LtAt A.in1 ⟨hp, g, d, tk, os⟩ vs ws r ∧ vs.length + items2.size = ws.length + items.size) _
    case turn =>
      rintro ⟨y, x⟩ rest b s' ⟨hb', rfl, vs, ws, hz, hlt', hlen⟩
      cases hlt' with
      | nn => rw [List.zip_nil_left] at hz; cases hz
      | nc => rw [List.zip_nil_left] at hz; cases hz
      | cn => rw [List.zip_nil_right] at hz; cases hz
      | eq he hr =>
        rw [List.zip_cons_cons] at hz
        injection hz with hyx hrest
        injection hyx with hy hx
        subst hy hx
        simp only [List.length_cons] at hlen
        refine wpAny_bind (he prog w _ _ ?_)
        wp_walk
        exact ⟨rfl, rfl, _, _, hrest, hr, by omega⟩
      | ne he hr =>
        rw [List.zip_cons_cons] at hz
        injection hz with hyx hrest
        injection hyx with hy hx
        subst hy hx
        refine wpAny_bind (he prog w _ _ ?_)
        have hri := hr prog w
        wp_walk using hri
        exact ⟨_, rfl, by simpa using h⟩
    case fin =>
      rintro ⟨b1, b2⟩ s' ⟨hb', rfl, vs, ws, hz, hlt', hlen⟩
      simp only at hb'
      subst hb'
      have hv : r = decide (items.size < items2.size) := by
        cases hlt' with
        | nn =>
          simp only [List.length_nil] at hlen
          exact (decide_eq_false (by omega)).symm
        | nc =>
          simp only [List.length_nil, List.length_cons] at hlen
          exact (decide_eq_true (by omega)).symm
        | cn =>
          simp only [List.length_nil, List.length_cons] at hlen
          exact (decide_eq_false (by omega)).symm
        | eq _ _ => rw [List.zip_cons_cons] at hz; cases hz
        | ne _ _ => rw [List.zip_cons_cons] at hz; cases hz
      rw [hv] at h
      wp_walk
      exact ⟨_, rfl, by simpa [Builtin.Tuple.tupleCompareSizes] using h⟩
    case h =>
      exact ⟨rfl, rfl, items.toList, items2.toList, rfl, hlt, by simp; omega⟩
theorem lt_loopL (l b : Addr) (items items2 : Array Value) (n n2 : Nat) (dd dd2 : Option Addr) (sl sl2 : Array (Option Value)) (r : Bool) (k : Nat) :
    ∀ i : Nat, items.size - i = k → Meets (Builtin.«list.__eq__.loop» ⟨[.ref l, .ref b, rawInt i, rawInt 0], []⟩)
      (fun A R s => s.heap.get? l = some { cls := .type "list", dict := dd, data := .seq items n, slots := sl } ∧ s.heap.get? b = some { cls := .type "list", dict := dd2, data := .seq items2 n2, slots := sl2 } ∧
        LtAt A.in1 s (items.toList.drop i) (items2.toList.drop i) r ∧ (i ≤ items.size ∧ i ≤ items2.size) ∧ R (.ok (.ret (.bool r))) s) := by
  induction k with
  | zero =>
    intro i hk prog w A R s h
    obtain ⟨hp, g, d, tk, os⟩ := s; obtain ⟨hl, hb, he, ⟨z1, z2⟩, h⟩ := h
    wp_walk using wpAny_loadPart' hl, wpAny_loadPart' hb
    have hi1 : items[((i : Nat) : Int).toNat]? = none := by simp; omega
    have hd : items.toList.drop i = [] := List.drop_eq_nil_of_le (by simp; omega)
    rw [hd] at he
    rw [hi1]
    have hr : r = decide (items.size < items2.size) := by
      cases hx : items2.toList.drop i with
      | nil =>
        rw [hx] at he
        have := congrArg List.length hx
        simp at this
        cases he
        exact (decide_eq_false (by omega)).symm
      | cons a t =>
        rw [hx] at he
        have := congrArg List.length hx
        simp at this
        cases he
        exact (decide_eq_true (by omega)).symm
    rw [hr] at h
    wp_walk using wpAny_loadPart' hl, wpAny_loadPart' hb
    exact h
  | succ k ih =>
    intro i hk prog w A R s h
    obtain ⟨hp, g, d, tk, os⟩ := s; obtain ⟨hl, hb, he, ⟨z1, z2⟩, h⟩ := h
    wp_walk using wpAny_loadPart' hl, wpAny_loadPart' hb
    have hlt : i < items.size := by omega
    have hi1 : items[((i : Nat) : Int).toNat]? = some items[i] := by simp [hlt]
    have hd : items.toList.drop i = items[i] :: items.toList.drop (i + 1) := by rw [List.drop_eq_getElem_cons (by simpa using hlt)]; simp
    have hc : ((i : Int) + 1) = ((i + 1 : Nat) : Int) := by push_cast; rfl
    rw [hd] at he
    rw [hi1]
    by_cases hlt2 : i < items2.size
    · have hi2 : items2[((i : Nat) : Int).toNat]? = some items2[i] := by simp [hlt2]
      have hd2 : items2.toList.drop i = items2[i] :: items2.toList.drop (i + 1) := by rw [List.drop_eq_getElem_cons (by simpa using hlt2)]; simp
      rw [hd2] at he
      rw [hi2]
      cases he with
      | eq he hr =>
        refine wpAny_bind (he prog w _ _ ?_)
        wp_walk
        rw [hc]
        exact ⟨plainId_quiet plain_eq_loop _, codeAny_builtin entry_eq_loop (by
          rw [Around.under_plainId plain_eq_loop _]
          exact ih (i + 1) (by omega) prog w A R _ ⟨hl, hb, hr, ⟨hlt, hlt2⟩, h⟩)⟩
      | ne he hr =>
        refine wpAny_bind (he prog w _ _ ?_)
        wp_walk using wpAny_loadPart' hl, wpAny_loadPart' hb
        rw [hi1, hi2]
        have hri := hr prog w
        wp_walk using hri
        exact h
    · have hi2 : items2[((i : Nat) : Int).toNat]? = none := by simp; omega
      have hd2 : items2.toList.drop i = [] := List.drop_eq_nil_of_le (by simp; omega)
      rw [hd2] at he
      rw [hi2]
      have hr : r = decide (items.size < items2.size) := by
        cases he
        exact (decide_eq_false (by omega)).symm
      rw [hr] at h
      wp_walk using wpAny_loadPart' hl, wpAny_loadPart' hb
      exact h
theorem list_lt_by (l b : Addr) (items items2 : Array Value) (n n2 : Nat) (dd dd2 : Option Addr) (sl sl2 : Array (Option Value)) (r : Bool) :
    Meets (Builtin.«list.__lt__» ⟨[.ref l, .ref b], []⟩)
      (fun A R s => s.heap.get? l = some { cls := .type "list", dict := dd, data := .seq items n, slots := sl } ∧ s.heap.get? b = some { cls := .type "list", dict := dd2, data := .seq items2 n2, slots := sl2 } ∧
        LtAt A.in1 s items.toList items2.toList r ∧ R (.ok (.ret (.bool r))) s) := by
  intro prog w A R s h
  obtain ⟨hp, g, d, tk, os⟩ := s; obtain ⟨hl, hb, he, h⟩ := h
  have f3 := AutoSeq1.sub_list_list
  wp_walk using wpAny_loadPart' hl, wpAny_loadPart' hb
  exact ⟨plainId_quiet plain_eq_loop _, codeAny_builtin entry_eq_loop (by
    rw [Around.under_plainId plain_eq_loop _]
    exact lt_loopL l b items items2 n n2 dd dd2 sl sl2 r _ 0 rfl prog w A R _ ⟨hl, hb, he, ⟨Nat.zero_le _, Nat.zero_le _⟩, h⟩)⟩
end
section
variable {prog : Program} {w : World} {A : Around} {E : Value → Shared → Prop} {s : Shared}
theorem rcLt_tup {l b : Addr} {items items2 : Array Value} {r : Bool} {Q : Value → Shared → Prop} (hl : IsTup s.heap l items) (hb : IsTup s.heap b items2) (hr : LtAt A.in1 s items.toList items2.toList r)
    (hu : A.units < cLine) (h : Q (.bool r) s) : wpAny (model prog w) A (richCompare .Lt (.ref l) (.ref b)) Q E s := by
  obtain ⟨⟨cls, dd, data, sl⟩, ho, hc, n, hd⟩ := id hl
  obtain ⟨⟨cls2, dd2, data2, sl2⟩, ho2, hc2, n2, hd2⟩ := id hb
  simp only at hc hd hc2 hd2
  subst hc hd hc2 hd2
  exact richCompare_meets_room (op := .Lt) ⟨_, ho, rfl⟩ ⟨_, ho2, rfl⟩ PySem.F.slot_tuple_lt PySem.F.entry_tuple_lt (PySem.F.args_tuple_lt_2 _ _) (tuple_lt_by l b items items2 n n2 dd dd2 sl sl2 r)
    ⟨ho, ho2, hr, show Value.bool r ≠ Value.notImplemented ∧ Q (.bool r) s from ⟨(fun x => nomatch x), h⟩⟩ hu
theorem rcLt_lst {l b : Addr} {items items2 : Array Value} {r : Bool} {n n2 : Nat} {dd dd2 : Option Addr} {sl sl2 : Array (Option Value)} {Q : Value → Shared → Prop} (hl : s.heap.get? l = some { cls := .type "list", dict := dd, data := .seq items n, slots := sl }) (hb : s.heap.get? b = some { cls := .type "list", dict := dd2, data := .seq items2 n2, slots := sl2 }) (hr : LtAt A.in1 s items.toList items2.toList r)
    (hu : A.units < cLine) (h : Q (.bool r) s) : wpAny (model prog w) A (richCompare .Lt (.ref l) (.ref b)) Q E s :=
  richCompare_meets_room (op := .Lt) ⟨_, hl, rfl⟩ ⟨_, hb, rfl⟩ PySem.F.slot_list_lt PySem.F.entry_list_lt (PySem.F.args_list_lt_2 _ _) (list_lt_by l b items items2 n n2 dd dd2 sl sl2 r)
    ⟨hl, hb, hr, show Value.bool r ≠ Value.notImplemented ∧ Q (.bool r) s from ⟨(fun x => nomatch x), h⟩⟩ hu
end
def ltS : V → V → Option Bool
  | .int i, .int j => some (decide (i < j))
  | .str a, .str b => some (decide (a.cps.toList < b.cps.toList))
  | _, _ => none
def ltL : List V → List V → Option Bool
  | [], [] => some false
  | [], _ :: _ => some true
  | _ :: _, [] => some false
  | x :: xs, y :: ys => if (flatV x && flatV y) = true then (if eqV x y = true then ltL xs ys else ltS x y) else none
section
variable {X : Cx}
end
def spLaw (K : PySem.W.Frag) : Sp := fun vs H Q _ => ∃ (a : Addr) (ns : List Int), vs = [.ref a] ∧ SqL K H a (ns.map V.int) ∧ ns.length ≤ 63 ∧ ∀ H', Q (.bl true) H'
section
variable {X : Cx}
end
section
variable {X : Cx}
end
theorem same_upd {H : Hp} {p : Addr} {o : HO} (h : H p = none) : Same H (upd H p o) := fun b u e => by rw [upd_ne (ne_of_none e h)]; exact e
end L2
set_option Elab.async false
set_option linter.all false
set_option maxRecDepth 100000
namespace L2
open PySem PySem.Spec PyProof.Rows
theorem ite_t {A B : Prop} (h : A) : (if true = true then A else B) := (if_pos (c := true = true) rfl : ite _ A B = A) ▸ h
theorem ite_f {A B : Prop} (h : B) : (if false = true then A else B) := (if_neg (c := false = true) Bool.false_ne_true : ite _ A B = B) ▸ h
inductive D where
  | non | bl (b : Bool) | int (i : Int) | str (x : Str) | ty (n : String) | tup (xs : List D) | lst (xs : List D) (b : Bool := false)
def atOf : D → At
  | .int i => .int i
  | .str x => .str x
  | _ => .non
def ktOf : D → KT
  | .tup l => .tup (l.map atOf)
  | d => .at (atOf d)
def ktsOf : List D → List KT
  | k :: _ :: r => ktOf k :: ktsOf r
  | _ => []
def CO (b : Bool) (xs : List D) (vs : List V) : HO := match b with
  | false => .lst vs
  | true => .dct (ktsOf xs) vs
def isL : HO → Bool
  | .lst _ => true
  | .dct _ _ => true
  | _ => false
theorem isL_CO (b : Bool) (xs : List D) (vs : List V) : isL (CO b xs vs) = true := by cases b <;> rfl
abbrev Fb := Addr → Prop
def KL (K : PySem.W.Frag) (a : Addr) (vs : List V) : Prop := SqL K (fun _ => none) a vs
def LstAt (K : PySem.W.Frag) (N : Fb) (H : Hp) (a : Addr) (o : HO) : Prop := (¬ N a ∧ Rd H a o) ∨ ∃ vs, o = .lst vs ∧ KL K a vs
theorem KL.sq {K : PySem.W.Frag} {H : Hp} {a : Addr} {vs : List V} (h : KL K a vs) : SqL K H a vs := by
  rcases h with (h | ⟨o, h⟩) | h
  · cases h
  · cases h
  · exact .inr h
theorem LstAt.sq {K : PySem.W.Frag} {N : Fb} {H : Hp} {a : Addr} {vs : List V} (h : LstAt K N H a (.lst vs)) : SqL K H a vs := by
  rcases h with ⟨_, h⟩ | ⟨ws, e, h⟩
  · exact .inl h
  · cases e; exact h.sq
theorem LstAt.of {K : PySem.W.Frag} {N : Fb} {H : Hp} {a : Addr} {o : HO} (n : ¬ N a) (h : H a = some o) : LstAt K N H a o := .inl ⟨n, .inl h⟩
theorem LstAt.of_sq {K : PySem.W.Frag} {H : Hp} {a : Addr} {vs : List V} (h : SqL K H a vs) : LstAt K (fun _ => False) H a (.lst vs) := by
  rcases h with h | h
  · exact .inl ⟨id, h⟩
  · exact .inr ⟨vs, rfl, .inr h⟩
mutual
def Den (K : PySem.W.Frag) (N : Fb) (H : Hp) : D → V → Prop
  | .non, v => v = .non
  | .bl b, v => v = .bl b
  | .int i, v => v = .int i
  | .str x, v => v = .str x
  | .ty n, v => v = .ty n
  | .tup xs, v => ∃ a vs, v = .ref a ∧ SqT K H a vs ∧ DenL K N H xs vs
  | .lst xs b, v => ∃ a vs, v = .ref a ∧ LstAt K N H a (CO b xs vs) ∧ DenL K N H xs vs
def DenL (K : PySem.W.Frag) (N : Fb) (H : Hp) : List D → List V → Prop
  | [], vs => vs = []
  | x :: xs, vs => ∃ v r, vs = v :: r ∧ Den K N H x v ∧ DenL K N H xs r
end
structure Step (M N N' : Fb) (H H' : Hp) : Prop where
  kp : ∀ a o, H a = some o → (¬ N a ∨ M a ∨ isL o = false) → H' a = some o
  nw : ∀ a, N' a → N a ∨ H a = none
theorem Step.trans {M N N1 N2 : Fb} {H H1 H2 : Hp} (a : Step M N N1 H H1) (b : Step M N1 N2 H1 H2) : Step M N N2 H H2 where
  kp := fun c o h z => by
    have h1 := a.kp c o h z
    refine b.kp c o h1 ?_
    rcases z with z | z | z
    · refine .inl fun n1 => ?_
      rcases a.nw c n1 with q | q
      · exact z q
      · rw [h] at q; cases q
    · exact .inr (.inl z)
    · exact .inr (.inr z)
  nw := fun c n2 => by
    rcases b.nw c n2 with q | q
    · exact a.nw c q
    · cases e : H c with
      | none => exact .inr rfl
      | some o =>
        refine .inl (Classical.byContradiction fun z => ?_)
        rw [a.kp c o e (.inl z)] at q
        cases q
theorem Step.of_same {M N : Fb} {H H' : Hp} (s : Same H H') : Step M N N H H' := ⟨fun a o h _ => s a o h, fun a h => .inl h⟩
theorem Step.refl {M N : Fb} {H : Hp} : Step M N N H H := Step.of_same (Same.refl H)
theorem Rd.step {M N N' : Fb} {H H' : Hp} {a : Addr} {u : HO} (s : Step M N N' H H') (h : Rd H a u) (z : ¬ N a ∨ M a ∨ isL u = false) : Rd H' a u := by
  rcases h with h | ⟨o, h⟩
  · exact .inl (s.kp a u h z)
  · exact .inr ⟨o, s.kp a _ h (.inr (.inr rfl))⟩
theorem Rd.same {H H' : Hp} {a : Addr} {u : HO} (s : Same H H') (h : Rd H a u) : Rd H' a u := by
  rcases h with h | ⟨o, h⟩
  · exact .inl (s a u h)
  · exact .inr ⟨o, s a _ h⟩
theorem SqT.step {K : PySem.W.Frag} {M N N' : Fb} {H H' : Hp} {a : Addr} {xs : List V} (s : Step M N N' H H') (h : SqT K H a xs) : SqT K H' a xs := by
  rcases h with h | h
  · exact .inl (h.step s (.inr (.inr rfl)))
  · exact .inr h
theorem SqT.same {K : PySem.W.Frag} {H H' : Hp} {a : Addr} {xs : List V} (s : Same H H') (h : SqT K H a xs) : SqT K H' a xs := SqT.step (M := fun _ => False) (N := fun _ => False) (Step.of_same s) h
theorem Rd.has {H : Hp} {a : Addr} {u : HO} (h : Rd H a u) : H a ≠ none := by
  rcases h with h | ⟨o, h⟩ <;> rw [h] <;> exact fun e => nomatch e
mutual
theorem Den.step {K : PySem.W.Frag} {M N N' : Fb} {H H' : Hp} (s : Step M N N' H H') : ∀ (d : D) (v : V), Den K N H d v → Den K N' H' d v
  | .non, _, h => h
  | .bl _, _, h => h
  | .int _, _, h => h
  | .str _, _, h => h
  | .ty _, _, h => h
  | .tup xs, v, h => by
    simp only [Den] at h ⊢
    obtain ⟨a, vs, e, q, r⟩ := h
    exact ⟨a, vs, e, q.step s, DenL.step s xs vs r⟩
  | .lst xs fl, v, h => by
    simp only [Den] at h ⊢
    obtain ⟨a, vs, e, q, r⟩ := h
    refine ⟨a, vs, e, ?_, DenL.step s xs vs r⟩
    rcases q with ⟨n, q⟩ | q
    · refine .inl ⟨fun n' => ?_, q.step s (.inl n)⟩
      rcases s.nw a n' with z | z
      · exact n z
      · exact q.has z
    · exact .inr q
theorem DenL.step {K : PySem.W.Frag} {M N N' : Fb} {H H' : Hp} (s : Step M N N' H H') : ∀ (xs : List D) (vs : List V), DenL K N H xs vs → DenL K N' H' xs vs
  | [], _, h => h
  | x :: xs, vs, h => by
    simp only [DenL] at h ⊢
    obtain ⟨v, r, e, q, t⟩ := h
    exact ⟨v, r, e, Den.step s x v q, DenL.step s xs r t⟩
end
section
variable {K : PySem.W.Frag} {M N N' : Fb} {H H' : Hp} {d : D} {v : V} {xs ys : List D} {vs ws : List V} {a : Addr}
theorem Den.same (h : Den K N H d v) (s : Same H H') : Den K N H' d v := Den.step (M := N) (Step.of_same s) d v h
theorem DenL.same (h : DenL K N H xs vs) (s : Same H H') : DenL K N H' xs vs := DenL.step (M := N) (Step.of_same s) xs vs h
theorem Den.nw (h : Den K N H d v) (z : ∀ a, N' a → N a ∨ H a = none) : Den K N' H d v := Den.step (M := N) (H' := H) ⟨fun _ _ h _ => h, z⟩ d v h
theorem DenL.nw (h : DenL K N H xs vs) (z : ∀ a, N' a → N a ∨ H a = none) : DenL K N' H xs vs := DenL.step (M := N) (H' := H) ⟨fun _ _ h _ => h, z⟩ xs vs h
theorem DenL.length : ∀ {xs : List D} {vs : List V}, DenL K N H xs vs → xs.length = vs.length
  | [], _, h => by simp only [DenL] at h; subst h; rfl
  | _ :: xs, _, h => by simp only [DenL] at h; obtain ⟨v, r, e, _, t⟩ := h; subst e; simp [DenL.length t]
theorem DenL.get : ∀ {xs : List D} {vs : List V} {i : Nat} {d : D}, DenL K N H xs vs → xs[i]? = some d → ∃ v, vs[i]? = some v ∧ Den K N H d v
  | [], _, i, d, _, e => by simp at e
  | x :: xs, _, 0, d, h, e => by
    simp only [DenL] at h; obtain ⟨v, r, e1, q, _⟩ := h; subst e1
    simp at e; subst e; exact ⟨v, rfl, q⟩
  | x :: xs, _, i + 1, d, h, e => by
    simp only [DenL] at h; obtain ⟨v, r, e1, _, t⟩ := h; subst e1
    obtain ⟨w, h1, h2⟩ := DenL.get (i := i) t (by simpa using e)
    exact ⟨w, by simpa using h1, h2⟩
theorem DenL.get' : ∀ {xs : List D} {vs : List V} {i : Nat} {v : V}, DenL K N H xs vs → vs[i]? = some v → ∃ d, xs[i]? = some d ∧ Den K N H d v := by
  intro xs vs i v h e
  have hl := h.length
  have hi : i < vs.length := (List.getElem?_eq_some_iff.mp e).1
  have hx : xs[i]? = some xs[i] := List.getElem?_eq_getElem (by omega)
  obtain ⟨w, h1, h2⟩ := h.get hx
  rw [e] at h1; cases h1
  exact ⟨_, hx, h2⟩
theorem DenL.append : ∀ {xs ys : List D} {vs ws : List V}, DenL K N H xs vs → DenL K N H ys ws → DenL K N H (xs ++ ys) (vs ++ ws)
  | [], _, _, _, h, h' => by simp only [DenL] at h; subst h; exact h'
  | x :: xs, ys, _, ws, h, h' => by
    simp only [DenL] at h; obtain ⟨v, r, e, q, t⟩ := h; subst e
    simp only [List.cons_append, DenL]
    exact ⟨v, r ++ ws, rfl, q, DenL.append t h'⟩
theorem DenL.nil : DenL K N H [] [] := by simp only [DenL]
theorem DenL.cons (h : Den K N H d v) (t : DenL K N H xs vs) : DenL K N H (d :: xs) (v :: vs) := by simp only [DenL]; exact ⟨v, vs, rfl, h, t⟩
theorem DenL.take : ∀ {xs : List D} {vs : List V} (n : Nat), DenL K N H xs vs → DenL K N H (xs.take n) (vs.take n)
  | _, _, 0, _ => by simpa using DenL.nil
  | [], _, n + 1, h => by simp only [DenL] at h; subst h; simpa using DenL.nil
  | x :: xs, _, n + 1, h => by
    simp only [DenL] at h; obtain ⟨v, r, e, q, t⟩ := h; subst e
    simpa using DenL.cons q (DenL.take n t)
theorem DenL.drop : ∀ {xs : List D} {vs : List V} (n : Nat), DenL K N H xs vs → DenL K N H (xs.drop n) (vs.drop n)
  | _, _, 0, h => by simpa using h
  | [], _, n + 1, h => by simp only [DenL] at h; subst h; simpa using DenL.nil
  | x :: xs, _, n + 1, h => by
    simp only [DenL] at h; obtain ⟨v, r, e, q, t⟩ := h; subst e
    simpa using DenL.drop n t
theorem DenL.reverse : ∀ {xs : List D} {vs : List V}, DenL K N H xs vs → DenL K N H xs.reverse vs.reverse
  | [], _, h => by simp only [DenL] at h; subst h; simpa using DenL.nil
  | x :: xs, _, h => by
    simp only [DenL] at h; obtain ⟨v, r, e, q, t⟩ := h; subst e
    simpa using DenL.append (DenL.reverse t) (DenL.cons q DenL.nil)
theorem DenL.set : ∀ {xs : List D} {vs : List V} (i : Nat), DenL K N H xs vs → Den K N H d v → DenL K N H (xs.set i d) (vs.set i v)
  | [], _, _, h, _ => by simp only [DenL] at h; subst h; simpa using DenL.nil
  | x :: xs, _, 0, h, q => by
    simp only [DenL] at h; obtain ⟨v, r, e, _, t⟩ := h; subst e
    simpa using DenL.cons q t
  | x :: xs, _, i + 1, h, q => by
    simp only [DenL] at h; obtain ⟨v, r, e, q', t⟩ := h; subst e
    simpa using DenL.cons q' (DenL.set i t q)
theorem DenL.ints : ∀ (ns : List Int), DenL K N H (ns.map D.int) (ns.map V.int)
  | [] => DenL.nil
  | n :: ns => DenL.cons (by simp only [Den]) (DenL.ints ns)
end
inductive Sl where
  | no | val (d : D) | own (xs : List D) (b : Bool := false) | lent (xs : List D) (b : Bool := false) | exc (c : Str)
def XAt (e C : Addr) (h : Heap) : Prop := ∃ o vs, h.get? e = some o ∧ o.cls = .ref C ∧ o.data = .fields vs ∧ vs[2]? = some .none
abbrev VE := List Sl
def Nf (M : Fb) (ρ : VE) (σ : St) : Fb := fun a => M a ∨ ∃ (i : Nat) (xs : List D) (b : Bool), ρ[i]? = some (Sl.own xs b) ∧ σ[i]? = some (some (V.ref a))
def SlOk (K : PySem.W.Frag) (M N : Fb) (H0 H : Hp) : Sl → Option V → Prop
  | .no, _ => True
  | .val d, o => ∃ v, o = some v ∧ Den K N H d v
  | .own xs b, o => ∃ a vs, o = some (.ref a) ∧ H0 a = none ∧ ¬ M a ∧ H a = some (CO b xs vs) ∧ DenL K N H xs vs
  | .lent xs b, o => ∃ a vs, o = some (.ref a) ∧ M a ∧ Rd H a (CO b xs vs) ∧ DenL K N H xs vs
  | .exc c, o => ∃ a C, o = some (.ref a) ∧ PySem.W.nsIn K mainGlobals c = some (some (.ref C)) ∧ H a = some (.ext (XAt a C))
structure Rel (K : PySem.W.Frag) (M : Fb) (H0 : Hp) (ρ : VE) (σ : St) (H : Hp) : Prop where
  len : ρ.length = σ.length
  same : Same H0 H
  mh : ∀ a, M a → H a ≠ none
  slot : ∀ (i : Nat) (s : Sl), ρ[i]? = some s → SlOk K M (Nf M ρ σ) H0 H s (σ[i]?.join)
  inj : ∀ (i j : Nat) (xs ys : List D) (b b' : Bool) (a : Addr), ρ[i]? = some (Sl.own xs b) → ρ[j]? = some (Sl.own ys b') → σ[i]? = some (some (V.ref a)) → σ[j]? = some (some (V.ref a)) → i = j
section
variable {K : PySem.W.Frag} {M N : Fb} {H0 H H' : Hp} {ρ : VE} {σ : St}
theorem Rel.nh (R : Rel K M H0 ρ σ H) : ∀ a, Nf M ρ σ a → H a ≠ none := by
  rintro a (h | ⟨i, xs, fl, h1, h2⟩)
  · exact R.mh a h
  · obtain ⟨b, vs, e, _, _, q, _⟩ := R.slot i _ h1
    rw [h2] at e
    have e' : b = a := by simpa using e.symm
    rw [← e', q]; exact fun z => nomatch z
theorem Rel.st (R : Rel K M H0 ρ σ H) (s : Same H H') : Rel K M H0 ρ σ H' where
  len := R.len
  same := R.same.trans s
  mh := fun a h z => R.mh a h (s.free z)
  slot := fun i sl e => by
    have q := R.slot i sl e
    cases sl with
    | no => trivial
    | val d => obtain ⟨v, e, h⟩ := q; exact ⟨v, e, h.same s⟩
    | own xs fl => obtain ⟨a, vs, e, h1, h2, h3, h4⟩ := q; exact ⟨a, vs, e, h1, h2, s _ _ h3, h4.same s⟩
    | lent xs fl => obtain ⟨a, vs, e, h1, h2, h3⟩ := q; exact ⟨a, vs, e, h1, h2.same s, h3.same s⟩
    | exc c => obtain ⟨a, C, e, h1, h2⟩ := q; exact ⟨a, C, e, h1, s _ _ h2⟩
  inj := R.inj
theorem Rel.fresh (R : Rel K M H0 ρ σ H) {p : Addr} (h : H p = none) : ¬ Nf M ρ σ p := fun n => R.nh p n h
end
def tD (K : PySem.W.Frag) (M : Fb) (H0 : Hp) (f : VE → Option D) : TE := fun σ H Q => ∃ ρ d, Rel K M H0 ρ σ H ∧ f ρ = some d ∧ ∀ v H', Same H H' → Den K (Nf M ρ σ) H' d v → Q v H'
def DenP (K : PySem.W.Frag) (N : Fb) (H : Hp) (d : D) (v : V) : Prop := match d with
  | .lst xs => ∃ a vs, v = .ref a ∧ SqL K H a vs ∧ DenL K N H xs vs
  | .lst xs true => ∃ a vs, v = .ref a ∧ Rd H a (.dct (ktsOf xs) vs) ∧ DenL K N H xs vs
  | d => Den K N H d v
theorem Den.p {K : PySem.W.Frag} {N : Fb} {H : Hp} {d : D} {v : V} (h : Den K N H d v) : DenP K N H d v := by
  cases d with
  | lst xs fl =>
    simp only [Den] at h
    obtain ⟨a, vs, e, q, r⟩ := h
    cases fl with
    | false => exact ⟨a, vs, e, LstAt.sq q, r⟩
    | true =>
      rcases q with ⟨_, q⟩ | ⟨ws, z, _⟩
      · exact ⟨a, vs, e, q, r⟩
      · cases z
  | _ => exact h
theorem DenP.same {K : PySem.W.Frag} {N : Fb} {H H' : Hp} {d : D} {v : V} (h : DenP K N H d v) (s : Same H H') : DenP K N H' d v := by
  cases d with
  | lst xs fl =>
    cases fl with
    | false => obtain ⟨a, vs, e, q, r⟩ := h; exact ⟨a, vs, e, s.seq q, r.same s⟩
    | true => obtain ⟨a, vs, e, q, r⟩ := h; exact ⟨a, vs, e, q.same s, r.same s⟩
  | _ => exact Den.same h s
theorem denP_co {K : PySem.W.Frag} {N : Fb} {H : Hp} {xs : List D} {vs : List V} {fl : Bool} {a : Addr} (h : Rd H a (CO fl xs vs)) (r : DenL K N H xs vs) : DenP K N H (.lst xs fl) (.ref a) := by
  cases fl with
  | false => exact ⟨a, vs, rfl, .inl h, r⟩
  | true => exact ⟨a, vs, rfl, h, r⟩
def tP (K : PySem.W.Frag) (M : Fb) (H0 : Hp) (f : VE → Option D) : TE := fun σ H Q => ∃ ρ d, Rel K M H0 ρ σ H ∧ f ρ = some d ∧ ∀ v H', Same H H' → DenP K (Nf M ρ σ) H' d v → Q v H'
def tFb (fl : Bool) (K : PySem.W.Frag) (M : Fb) (H0 : Hp) (f : VE → Option (List D)) : TE := fun σ H Q => ∃ ρ xs, Rel K M H0 ρ σ H ∧ f ρ = some xs ∧
  ∀ a vs H', Same H H' → H a = none → H' a = some (CO fl xs vs) → DenL K (fun b => Nf M ρ σ b ∨ b = a) H' xs vs → Q (.ref a) H'
@[reducible] def tF (K : PySem.W.Frag) (M : Fb) (H0 : Hp) (f : VE → Option (List D)) : TE := tFb false K M H0 f
def tB' (K : PySem.W.Frag) (M : Fb) (H0 : Hp) (f : VE → Option Bool) : TT := fun σ H Q => ∃ ρ b, Rel K M H0 ρ σ H ∧ f ρ = some b ∧ ∀ H', Same H H' → Q b H'
structure JE (X : Cx) (e : Expr) (t : TE) : Prop where h : PE X e t
structure JT (X : Cx) (e : Expr) (t : TT) : Prop where h : PT X e t
structure JW (X : Cx) (e : Expr) (t : TT) : Prop where h : PW X e t
structure JA (X : Cx) (e : List Expr) (t : TA) : Prop where h : PA X e t
structure JS (X : Cx) (e : Stmt) (t : TS) : Prop where h : PS X e t
structure JB (X : Cx) (e : List Stmt) (t : TS) : Prop where h : PSs X e t
structure JI (X : Cx) (tg e : Expr) (t : TI) : Prop where h : PI X tg e t
structure JG (X : Cx) (e : Expr) (t : TG) : Prop where h : PG X e t
structure JK (X : Cx) (e : List Expr) (t : TGs) : Prop where h : PGs X e t
structure JO (X : Cx) (e : Option Expr) (t : TO) : Prop where h : PO X e t
structure JF (X : Cx) (e : List Expr) (t : TT) : Prop where h : PFs X e t
theorem PE.mono {X : Cx} {e : Expr} {t t' : TE} (h : PE X e t) (m : ∀ σ H Q, t' σ H Q → t σ H Q) : PE X e t' := fun pins s σ H Q I q => h pins s σ H Q I (m σ H Q q)
theorem PT.mono {X : Cx} {e : Expr} {t t' : TT} (h : PT X e t) (m : ∀ σ H Q, t' σ H Q → t σ H Q) : PT X e t' := fun pins s σ H Q I q => h pins s σ H Q I (m σ H Q q)
theorem PW.mono {X : Cx} {e : Expr} {t t' : TT} (h : PW X e t) (m : ∀ σ H Q, t' σ H Q → t σ H Q) : PW X e t' := fun wh pins s σ H Q I q => h wh pins s σ H Q I (m σ H Q q)
theorem PA.mono {X : Cx} {e : List Expr} {t t' : TA} (h : PA X e t) (m : ∀ σ H Q, t' σ H Q → t σ H Q) : PA X e t' := fun pos pins s σ H Q I q => h pos pins s σ H Q I (m σ H Q q)
theorem PS.mono {X : Cx} {e : Stmt} {t t' : TS} (h : PS X e t) (m : ∀ D σ H, t' D σ H → t D σ H) : PS X e t' := fun pins s σ H D I q => h pins s σ H D I (m D σ H q)
theorem PSs.mono {X : Cx} {e : List Stmt} {t t' : TS} (h : PSs X e t) (m : ∀ D σ H, t' D σ H → t D σ H) : PSs X e t' := fun pins s σ H D I q => h pins s σ H D I (m D σ H q)
section
variable {X : Cx} {K : PySem.W.Frag} {M : Fb} {H0 : Hp} {e a b : Expr} {f g : VE → Option D} {pos : Pos}
theorem PE.p (h : PE X e (tD K M H0 f)) : PE X e (tP K M H0 f) := h.mono fun σ H Q ⟨ρ, d, R, e, q⟩ => ⟨ρ, d, R, e, fun v H' s z => q v H' s z.p⟩
theorem j_p (h : JE X e (tD K M H0 f)) : JE X e (tP K M H0 f) := ⟨PE.p h.h⟩
@[simp] def lstO (o : Option (List D)) : Option D := o.map D.lst
@[simp] def dctO (o : Option (List D)) : Option D := o.map fun l => D.lst l true
theorem PE.fd {f : VE → Option (List D)} (h : PE X e (tF K M H0 f)) : PE X e (tD K M H0 fun ρ => lstO (f ρ)) := h.mono fun σ H Q ⟨ρ, d, R, e, q⟩ => by
  try dsimp only at e q
  cases hf : f ρ with
  | none => rw [hf] at e; cases e
  | some xs =>
    rw [hf] at e
    cases e
    refine ⟨ρ, xs, R, hf, fun a vs H' s z1 z2 z3 => q _ _ s ?_⟩
    simp only [Den]
    refine ⟨a, vs, rfl, .of (R.fresh z1) z2, z3.nw fun b hb => .inl (.inl hb)⟩
theorem PE.dd {f : VE → Option (List D)} (h : PE X e (tFb true K M H0 f)) : PE X e (tD K M H0 fun ρ => dctO (f ρ)) := h.mono fun σ H Q ⟨ρ, d, R, e, q⟩ => by
  try dsimp only at e q
  cases hf : f ρ with
  | none => rw [hf] at e; cases e
  | some xs =>
    rw [hf] at e
    cases e
    refine ⟨ρ, xs, R, hf, fun a vs H' s z1 z2 z3 => q _ _ s ?_⟩
    simp only [Den]
    refine ⟨a, vs, rfl, .of (R.fresh z1) z2, z3.nw fun b hb => .inl (.inl hb)⟩
theorem j_fd {f : VE → Option (List D)} (h : JE X e (tF K M H0 f)) : JE X e (tD K M H0 fun ρ => lstO (f ρ)) := ⟨PE.fd h.h⟩
theorem PE.fp {f : VE → Option (List D)} (h : PE X e (tF K M H0 f)) : PE X e (tP K M H0 fun ρ => lstO (f ρ)) := h.fd.p
@[simp] def rdV (ρ : VE) (i : Nat) : Option D := match ρ[i]? with
  | some (.val d) => some d
  | _ => none
@[simp] def rdP (ρ : VE) (i : Nat) : Option D := match ρ[i]? with
  | some (.val d) => some d
  | some (.own xs b) => some (.lst xs b)
  | some (.lent xs b) => some (.lst xs b)
  | _ => none
theorem rdV_slot {ρ : VE} {i : Nat} {d : D} (h : rdV ρ i = some d) : ρ[i]? = some (.val d) := by
  unfold rdV at h
  split at h
  · cases h; assumption
  · cases h
theorem ve_var {i : Nat} {x : Str} (hN : X.N[i]? = some x) (hv : Vis X.env.scope x) (hd : (x == ("__debug__" : Str)) = false := by decide) (hcd : (x == ("__classdict__" : Str)) = false := by decide) : PE X (.Name x pos) (tD K M H0 fun ρ => rdV ρ i) :=
  (pe_var hN hv hd hcd).mono fun σ H Q ⟨ρ, d, R, e, q⟩ => by
    try dsimp only at e q
    obtain ⟨v, e1, h⟩ := R.slot i _ (rdV_slot e)
    refine ⟨v, ?_, q v H (Same.refl H) h⟩
    cases z : σ[i]? with
    | none => rw [z] at e1; cases e1
    | some o => rw [z] at e1; cases e1; rfl
theorem vp_var {i : Nat} {x : Str} (hN : X.N[i]? = some x) (hv : Vis X.env.scope x) (hd : (x == ("__debug__" : Str)) = false := by decide) (hcd : (x == ("__classdict__" : Str)) = false := by decide) : PE X (.Name x pos) (tP K M H0 fun ρ => rdP ρ i) :=
  (pe_var hN hv hd hcd).mono fun σ H Q ⟨ρ, d, R, e, q⟩ => by
    try dsimp only at e q
    have fin : ∀ v, σ[i]?.join = some v → DenP K (Nf M ρ σ) H d v → ∃ v, σ[i]? = some (some v) ∧ Q v H := fun v e1 h => by
      refine ⟨v, ?_, q v H (Same.refl H) h⟩
      cases z : σ[i]? with
      | none => rw [z] at e1; cases e1
      | some o => rw [z] at e1; cases e1; rfl
    unfold rdP at e
    split at e
    · next h => cases e; obtain ⟨v, e1, h⟩ := R.slot i _ h; exact fin v e1 h.p
    · next h => cases e; obtain ⟨a, vs, e1, _, _, h3, h4⟩ := R.slot i _ h; exact fin _ e1 (denP_co (.inl h3) h4)
    · next h => cases e; obtain ⟨a, vs, e1, _, h3, h4⟩ := R.slot i _ h; exact fin _ e1 (denP_co h3 h4)
    · cases e
theorem ve_c {d : D} {v : V} {e : Expr} (h : PE X e (tC v)) (hd : ∀ N H, Den K N H d v) : PE X e (tD K M H0 fun _ => some d) :=
  h.mono fun σ H Q ⟨ρ, d', R, e, q⟩ => by (try dsimp only at e q); cases e; exact q v H (Same.refl H) (hd _ _)
theorem ve_int {i j pos} : PE X (.Constant (.int i) j pos) (tD K M H0 fun _ => some (.int i)) := ve_c pe_int fun _ _ => by simp only [Den]
theorem j_ve_int {i j pos} : JE X (.Constant (.int i) j pos) (tD K M H0 fun _ => some (.int i)) := ⟨ve_int ⟩
theorem ve_bl {i j pos} : PE X (.Constant (.bool i) j pos) (tD K M H0 fun _ => some (.bl i)) := ve_c pe_bl fun _ _ => by simp only [Den]
theorem j_ve_bl {i j pos} : JE X (.Constant (.bool i) j pos) (tD K M H0 fun _ => some (.bl i)) := ⟨ve_bl ⟩
theorem ve_non {j pos} : PE X (.Constant .none j pos) (tD K M H0 fun _ => some .non) := ve_c pe_non fun _ _ => by simp only [Den]
theorem j_ve_non {j pos} : JE X (.Constant .none j pos) (tD K M H0 fun _ => some .non) := ⟨ve_non ⟩
theorem ve_str {i j pos} : PE X (.Constant (.str i) j pos) (tD K M H0 fun _ => some (.str i)) := ve_c pe_str fun _ _ => by simp only [Den]
theorem j_ve_str {i j pos} : JE X (.Constant (.str i) j pos) (tD K M H0 fun _ => some (.str i)) := ⟨ve_str ⟩
def R2D (K : PySem.W.Frag) (r : R2) (F : D → D → Option D) : Prop := ∀ (N : Fb) (H : Hp) (x y : V) (d1 d2 d : D) (Q : VK), (∀ a, N a → H a ≠ none) → DenP K N H d1 x → DenP K N H d2 y → F d1 d2 = some d →
  (∀ v H', Same H H' → Den K N H' d v → Q v H') → r x y H Q
@[simp] def bin2 (F : D → D → Option D) (f g : VE → Option D) : VE → Option D := fun ρ => (f ρ).bind fun x => (g ρ).bind fun y => F x y
theorem bin2_inv {F : D → D → Option D} {f g : VE → Option D} {ρ : VE} {d : D} (h : bin2 F f g ρ = some d) : ∃ x y, f ρ = some x ∧ g ρ = some y ∧ F x y = some d := by
  unfold bin2 at h
  cases hf : f ρ with
  | none => rw [hf] at h; cases h
  | some x =>
    cases hg : g ρ with
    | none => rw [hf, hg] at h; cases h
    | some y => rw [hf, hg] at h; exact ⟨x, y, rfl, rfl, h⟩
theorem tOp_D {r : R2} {F : D → D → Option D} (hr : R2D K r F) {σ : St} {H : Hp} {Q : VK} (h : tD K M H0 (bin2 F f g) σ H Q) : tOp r (tP K M H0 f) (tP K M H0 g) σ H Q := by
  obtain ⟨ρ, d, R, e, q⟩ := h
  try dsimp only at e q
  obtain ⟨x, y, e1, e2, e3⟩ := bin2_inv e
  refine ⟨ρ, x, R, e1, fun v H1 s1 h1 => ⟨ρ, y, R.st s1, e2, fun u H2 s2 h2 => ?_⟩⟩
  exact hr (Nf M ρ σ) H2 v u x y d Q ((R.st s1).st s2).nh (h1.same s2) h2 e3 fun w H3 s3 h3 => q w H3 ((s1.trans s2).trans s3) h3
theorem ve_op {op : Operator} {r : R2} {F : D → D → Option D} (ho : OpR X (binaryOp op) r) (hr : R2D K r F) (ha : PE X a (tP K M H0 f)) (hb : PE X b (tP K M H0 g)) : PE X (.BinOp a op b pos) (tD K M H0 (bin2 F f g)) :=
  (pe_op ho ha hb).mono fun _ _ _ h => tOp_D hr h
theorem ve_cmp {op : CmpOp} {r : R2} {F : D → D → Option D} (ho : OpR X (compareOp op) r) (hr : R2D K r F) (ha : PE X a (tP K M H0 f)) (hb : PE X b (tP K M H0 g)) (hm : behindInMarks op b = false) : PE X (.Compare a [op] [b] pos) (tD K M H0 (bin2 F f g)) :=
  (pe_cmpR ho ha hb hm).mono fun _ _ _ h => tOp_D hr h
theorem ve_ix {r : R2} {F : D → D → Option D} (ho : IxR X r) (hr : R2D K r F) (ha : PE X a (tP K M H0 f)) (hb : PE X b (tP K M H0 g)) (hs : PlainIx b) : PE X (.Subscript a b pos) (tD K M H0 (bin2 F f g)) :=
  (pe_ix ho ha hb hs).mono fun _ _ _ h => tOp_D hr h
@[simp] def orO {α : Type} (a b : Option α) : Option α := match a with
  | some x => some x
  | none => b
theorem R2D.or {r r' : R2} {F F' : D → D → Option D} (h : R2D K r F) (h' : R2D K r' F') : R2D K (fun x y H Q => r x y H Q ∨ r' x y H Q) (fun x y => orO (F x y) (F' x y)) := by
  intro N H x y d1 d2 d Q nh h1 h2 e q
  cases hF : F d1 d2 with
  | some z => simp only [hF, orO] at e; cases e; exact .inl (h N H x y d1 d2 d Q nh h1 h2 hF q)
  | none => simp only [hF, orO] at e; exact .inr (h' N H x y d1 d2 d Q nh h1 h2 e q)
@[simp] def asB : Option D → Option Bool
  | some (.bl b) => some b
  | _ => none
theorem asB_some {o : Option D} {b : Bool} (h : asB o = some b) : o = some (.bl b) := by
  unfold asB at h
  split at h
  · cases h; rfl
  · cases h
theorem tTest_D {t : TE} {σ : St} {H : Hp} {Q : Bool → Hp → Prop} (ht : ∀ σ H Q, tD K M H0 f σ H Q → t σ H Q) (h : tB' K M H0 (fun ρ => asB (f ρ)) σ H Q) : tB t σ H Q := by
  obtain ⟨ρ, b, R, e, q⟩ := h
  try dsimp only at e q
  refine ht σ H _ ⟨ρ, .bl b, R, asB_some e, fun v H' s hv => ?_⟩
  simp only [Den] at hv
  exact ⟨b, hv, q H' s⟩
theorem vt_cmp {op : CmpOp} {r : R2} {F : D → D → Option D} (ho : OpR X (compareOp op) r) (hr : R2D K r F) (ha : PE X a (tP K M H0 f)) (hb : PE X b (tP K M H0 g)) (hm : behindInMarks op b = false) : PT X (.Compare a [op] [b] pos) (tB' K M H0 fun ρ => asB (bin2 F f g ρ)) :=
  (pt_cmpR ho ha hb hm).mono fun _ _ _ q => tTest_D (t := tOp r (tP K M H0 f) (tP K M H0 g)) (fun _ _ _ z => tOp_D hr z) q
@[simp] def notO (o : Option Bool) : Option Bool := o.map (!·)
@[simp] def andO (o p : Option Bool) : Option Bool := match o with
  | some true => p
  | some false => some false
  | none => none
@[simp] def orB (o p : Option Bool) : Option Bool := match o with
  | some true => some true
  | some false => p
  | none => none
section
variable {c c' : VE → Option Bool} {rest : List Expr}
theorem vt_not (h : PT X a (tB' K M H0 c)) : PT X (.UnaryOp .Not a pos) (tB' K M H0 fun ρ => notO (c ρ)) := (pt_not h).mono fun σ H Q ⟨ρ, b, R, e, q⟩ => by
  try dsimp only at e q
  cases hc : c ρ with
  | none => rw [hc] at e; cases e
  | some k => rw [hc] at e; cases e; exact ⟨ρ, k, R, hc, q⟩
theorem j_vt_not (h : JT X a (tB' K M H0 c)) : JT X (.UnaryOp .Not a pos) (tB' K M H0 fun ρ => notO (c ρ)) := ⟨vt_not h.h⟩
theorem vw_and1 (h : PT X a (tB' K M H0 c)) : PW X (.BoolOp .And [a] pos) (tB' K M H0 c) := pw_and1 h
theorem j_vw_and1 (h : JT X a (tB' K M H0 c)) : JW X (.BoolOp .And [a] pos) (tB' K M H0 c) := ⟨vw_and1 h.h⟩
theorem vw_or1 (h : PT X a (tB' K M H0 c)) : PW X (.BoolOp .Or [a] pos) (tB' K M H0 c) := pw_or1 h
theorem j_vw_or1 (h : JT X a (tB' K M H0 c)) : JW X (.BoolOp .Or [a] pos) (tB' K M H0 c) := ⟨vw_or1 h.h⟩
theorem tAnd_D {σ : St} {H : Hp} {Q : Bool → Hp → Prop} (h : tB' K M H0 (fun ρ => andO (c ρ) (c' ρ)) σ H Q) : tAnd (tB' K M H0 c) (tB' K M H0 c') σ H Q := by
  obtain ⟨ρ, b, R, e, q⟩ := h
  try dsimp only at e q
  cases hc : c ρ with
  | none => rw [hc] at e; cases e
  | some k =>
    cases k with
    | true => rw [hc] at e; exact ⟨ρ, true, R, hc, fun H1 s => by refine ite_t ?_; exact ⟨ρ, b, R.st s, e, fun H2 s2 => q H2 (s.trans s2)⟩⟩
    | false => rw [hc] at e; cases e; exact ⟨ρ, false, R, hc, fun H1 s => by refine ite_f ?_; exact q H1 s⟩
theorem tOr_D {σ : St} {H : Hp} {Q : Bool → Hp → Prop} (h : tB' K M H0 (fun ρ => orB (c ρ) (c' ρ)) σ H Q) : tOr (tB' K M H0 c) (tB' K M H0 c') σ H Q := by
  obtain ⟨ρ, b, R, e, q⟩ := h
  try dsimp only at e q
  cases hc : c ρ with
  | none => rw [hc] at e; cases e
  | some k =>
    cases k with
    | false => rw [hc] at e; exact ⟨ρ, false, R, hc, fun H1 s => by refine ite_f ?_; exact ⟨ρ, b, R.st s, e, fun H2 s2 => q H2 (s.trans s2)⟩⟩
    | true => rw [hc] at e; cases e; exact ⟨ρ, true, R, hc, fun H1 s => by refine ite_t ?_; exact q H1 s⟩
theorem vw_and (h : PT X a (tB' K M H0 c)) (h' : PW X (.BoolOp .And (b :: rest) pos) (tB' K M H0 c')) : PW X (.BoolOp .And (a :: b :: rest) pos) (tB' K M H0 fun ρ => andO (c ρ) (c' ρ)) := (pw_and h h').mono fun _ _ _ q => tAnd_D q
theorem j_vw_and (h : JT X a (tB' K M H0 c)) (h' : JW X (.BoolOp .And (b :: rest) pos) (tB' K M H0 c')) : JW X (.BoolOp .And (a :: b :: rest) pos) (tB' K M H0 fun ρ => andO (c ρ) (c' ρ)) := ⟨vw_and h.h h'.h⟩
theorem vw_or (h : PT X a (tB' K M H0 c)) (h' : PW X (.BoolOp .Or (b :: rest) pos) (tB' K M H0 c')) : PW X (.BoolOp .Or (a :: b :: rest) pos) (tB' K M H0 fun ρ => orB (c ρ) (c' ρ)) := (pw_or h h').mono fun _ _ _ q => tOr_D q
theorem j_vw_or (h : JT X a (tB' K M H0 c)) (h' : JW X (.BoolOp .Or (b :: rest) pos) (tB' K M H0 c')) : JW X (.BoolOp .Or (a :: b :: rest) pos) (tB' K M H0 fun ρ => orB (c ρ) (c' ρ)) := ⟨vw_or h.h h'.h⟩
@[simp] def blO (o : Option Bool) : Option D := o.map D.bl
theorem tD_bl {σ : St} {H : Hp} {Q : VK} (h : tD K M H0 (fun ρ => blO (c ρ)) σ H Q) : ∃ ρ b, Rel K M H0 ρ σ H ∧ c ρ = some b ∧ ∀ H', Same H H' → Q (.bl b) H' := by
  obtain ⟨ρ, d, R, e, q⟩ := h
  try dsimp only at e q
  cases hc : c ρ with
  | none => rw [hc] at e; cases e
  | some k => rw [hc] at e; cases e; exact ⟨ρ, k, R, hc, fun H' s => q _ H' s (by simp only [Den])⟩
theorem ve_not (h : PE X a (tD K M H0 f)) : PE X (.UnaryOp .Not a pos) (tD K M H0 fun ρ => blO (notO (asB (f ρ)))) := (pe_not h).mono fun σ H Q q => by
  obtain ⟨ρ, b, R, e, q⟩ := tD_bl q
  try dsimp only at e q
  cases hc : asB (f ρ) with
  | none => rw [hc] at e; cases e
  | some k =>
    rw [hc] at e; cases e
    refine ⟨ρ, .bl k, R, asB_some hc, fun v H' s hv => ?_⟩
    simp only [Den] at hv
    exact ⟨k, hv, q H' s⟩
theorem j_ve_not (h : JE X a (tD K M H0 f)) : JE X (.UnaryOp .Not a pos) (tD K M H0 fun ρ => blO (notO (asB (f ρ)))) := ⟨ve_not h.h⟩
theorem ve_one {op} (h : PE X a (tD K M H0 f)) : PE X (.BoolOp op [a] pos) (tD K M H0 fun ρ => blO (asB (f ρ))) := (pe_one h).mono fun σ H Q q => by
  obtain ⟨ρ, b, R, e, q⟩ := tD_bl q
  try dsimp only at e q
  exact ⟨ρ, .bl b, R, asB_some e, fun v H' s hv => by simp only [Den] at hv; subst hv; exact q H' s⟩
theorem j_ve_one {op} (h : JE X a (tD K M H0 f)) : JE X (.BoolOp op [a] pos) (tD K M H0 fun ρ => blO (asB (f ρ))) := ⟨ve_one h.h⟩
theorem ve_and (h : PE X a (tD K M H0 f)) (h' : PE X (.BoolOp .And (b :: rest) pos) (tD K M H0 fun ρ => blO (c' ρ))) : PE X (.BoolOp .And (a :: b :: rest) pos) (tD K M H0 fun ρ => blO (andO (asB (f ρ)) (c' ρ))) := (pe_and h h').mono fun σ H Q q => by
  obtain ⟨ρ, b, R, e, q⟩ := tD_bl q
  try dsimp only at e q
  cases hc : asB (f ρ) with
  | none => rw [hc] at e; cases e
  | some k =>
    refine ⟨ρ, .bl k, R, asB_some hc, fun v H' s hv => ?_⟩
    simp only [Den] at hv
    refine ⟨k, hv, ?_⟩
    cases k with
    | true =>
      rw [hc] at e; refine ite_t ?_
      have e' : c' ρ = some b := e
      exact ⟨ρ, .bl b, R.st s, by show blO (c' ρ) = _; rw [e']; rfl, fun w H2 s2 hw => by simp only [Den] at hw; subst hw; exact q H2 (s.trans s2)⟩
    | false => rw [hc] at e; cases e; refine ite_f ?_; exact q H' s
theorem j_ve_and (h : JE X a (tD K M H0 f)) (h' : JE X (.BoolOp .And (b :: rest) pos) (tD K M H0 fun ρ => blO (c' ρ))) : JE X (.BoolOp .And (a :: b :: rest) pos) (tD K M H0 fun ρ => blO (andO (asB (f ρ)) (c' ρ))) := ⟨ve_and h.h h'.h⟩
theorem ve_or (h : PE X a (tD K M H0 f)) (h' : PE X (.BoolOp .Or (b :: rest) pos) (tD K M H0 fun ρ => blO (c' ρ))) : PE X (.BoolOp .Or (a :: b :: rest) pos) (tD K M H0 fun ρ => blO (orB (asB (f ρ)) (c' ρ))) := (pe_or h h').mono fun σ H Q q => by
  obtain ⟨ρ, b, R, e, q⟩ := tD_bl q
  try dsimp only at e q
  cases hc : asB (f ρ) with
  | none => rw [hc] at e; cases e
  | some k =>
    refine ⟨ρ, .bl k, R, asB_some hc, fun v H' s hv => ?_⟩
    simp only [Den] at hv
    refine ⟨k, hv, ?_⟩
    cases k with
    | false =>
      rw [hc] at e; refine ite_f ?_
      have e' : c' ρ = some b := e
      exact ⟨ρ, .bl b, R.st s, by show blO (c' ρ) = _; rw [e']; rfl, fun w H2 s2 hw => by simp only [Den] at hw; subst hw; exact q H2 (s.trans s2)⟩
    | true => rw [hc] at e; cases e; refine ite_t ?_; exact q H' s
theorem j_ve_or (h : JE X a (tD K M H0 f)) (h' : JE X (.BoolOp .Or (b :: rest) pos) (tD K M H0 fun ρ => blO (c' ρ))) : JE X (.BoolOp .Or (a :: b :: rest) pos) (tD K M H0 fun ρ => blO (orB (asB (f ρ)) (c' ρ))) := ⟨ve_or h.h h'.h⟩
@[simp] def iteO {α : Type} (c : Option Bool) (a b : Option α) : Option α := match c with
  | some true => a
  | some false => b
  | none => none
@[simp] def isN : D → Bool
  | .non => true
  | _ => false
@[simp] def isNO (o : Option D) : Option Bool := o.map isN
theorem DenP.isN {K : PySem.W.Frag} {N : Fb} {H : Hp} {d : D} {v : V} (h : DenP K N H d v) : decide (v = .non) = L2.isN d := by
  cases d with
  | non => simp only [DenP, Den] at h; subst h; rfl
  | bl _ => simp only [DenP, Den] at h; subst h; rfl
  | int _ => simp only [DenP, Den] at h; subst h; rfl
  | str _ => simp only [DenP, Den] at h; subst h; rfl
  | ty _ => simp only [DenP, Den] at h; subst h; rfl
  | tup _ => simp only [DenP, Den] at h; obtain ⟨a, vs, e, _⟩ := h; subst e; rfl
  | lst _ fl => cases fl <;> (obtain ⟨a, vs, e, _⟩ := h; subst e; rfl)
theorem ve_isN {j pos'} (h : PE X a (tP K M H0 f)) : PE X (.Compare a [.Is] [.Constant .none j pos'] pos) (tD K M H0 fun ρ => blO (isNO (f ρ))) := (pe_cmp (pc_isN h)).mono fun σ H Q q => by
  obtain ⟨ρ, b, R, e, q⟩ := tD_bl q
  try dsimp only at e q
  cases hf : f ρ with
  | none => rw [hf] at e; cases e
  | some d => rw [hf] at e; cases e; exact ⟨ρ, d, R, hf, fun v H' s hv => by dsimp only; rw [hv.isN]; exact q H' s⟩
theorem j_ve_isN {j pos'} (h : JE X a (tP K M H0 f)) : JE X (.Compare a [.Is] [.Constant .none j pos'] pos) (tD K M H0 fun ρ => blO (isNO (f ρ))) := ⟨ve_isN h.h⟩
theorem ve_notN {j pos'} (h : PE X a (tP K M H0 f)) : PE X (.Compare a [.IsNot] [.Constant .none j pos'] pos) (tD K M H0 fun ρ => blO (notO (isNO (f ρ)))) := (pe_cmp (pc_notN h)).mono fun σ H Q q => by
  obtain ⟨ρ, b, R, e, q⟩ := tD_bl q
  try dsimp only at e q
  cases hf : f ρ with
  | none => rw [hf] at e; cases e
  | some d => rw [hf] at e; cases e; exact ⟨ρ, d, R, hf, fun v H' s hv => by dsimp only; rw [hv.isN]; exact q H' s⟩
theorem j_ve_notN {j pos'} (h : JE X a (tP K M H0 f)) : JE X (.Compare a [.IsNot] [.Constant .none j pos'] pos) (tD K M H0 fun ρ => blO (notO (isNO (f ρ)))) := ⟨ve_notN h.h⟩
theorem vt_isN {j pos'} (h : PE X a (tP K M H0 f)) : PT X (.Compare a [.Is] [.Constant .none j pos'] pos) (tB' K M H0 fun ρ => isNO (f ρ)) := (pt_cmp (pc_isN h)).mono fun σ H Q ⟨ρ, b, R, e, q⟩ => by
  try dsimp only at e q
  cases hf : f ρ with
  | none => rw [hf] at e; cases e
  | some d => rw [hf] at e; cases e; exact ⟨ρ, d, R, hf, fun v H' s hv => ⟨_, rfl, by rw [hv.isN]; exact q H' s⟩⟩
theorem j_vt_isN {j pos'} (h : JE X a (tP K M H0 f)) : JT X (.Compare a [.Is] [.Constant .none j pos'] pos) (tB' K M H0 fun ρ => isNO (f ρ)) := ⟨vt_isN h.h⟩
end
end
end L2
set_option Elab.async false
set_option linter.all false
set_option maxRecDepth 100000
namespace L2
open PySem PySem.Spec PyProof.Rows
theorem star_c {e : Expr} {es : List Expr} {env : Env} (h : ∀ x p, e ≠ .Starred x p) : starEach (e :: es) env = (false, eval e env) :: starEach es env := by
  cases e with
  | Starred x p => exact absurd rfl (h x p)
  | _ => rfl
def ArgOk (K : PySem.W.Frag) (N : Fb) (H : Hp) : Sl → V → Prop
  | .val d, v => Den K N H d v
  | .lent xs b, v => ∃ a vs, v = .ref a ∧ N a ∧ Rd H a (CO b xs vs) ∧ DenL K N H xs vs
  | _, _ => False
def ArgsOk (K : PySem.W.Frag) (N : Fb) (H : Hp) : List Sl → List V → Prop
  | [], vs => vs = []
  | s :: ss, vs => ∃ v r, vs = v :: r ∧ ArgOk K N H s v ∧ ArgsOk K N H ss r
@[simp] def pk : Sl → Option D
  | .val d => some d
  | .lent xs b => some (.lst xs b)
  | .own xs b => some (.lst xs b)
  | .no => none
  | .exc _ => none
theorem ArgOk.same {K : PySem.W.Frag} {N : Fb} {H H' : Hp} {s : Sl} {v : V} (h : ArgOk K N H s v) (sm : Same H H') : ArgOk K N H' s v := by
  cases s with
  | val d => exact Den.same h sm
  | lent xs fl => obtain ⟨a, vs, e, n, q, r⟩ := h; exact ⟨a, vs, e, n, q.same sm, r.same sm⟩
  | no => exact h
  | own xs fl => exact h
  | exc c => exact h
theorem ArgsOk.same {K : PySem.W.Frag} {N : Fb} {H H' : Hp} (sm : Same H H') : ∀ {ss : List Sl} {vs : List V}, ArgsOk K N H ss vs → ArgsOk K N H' ss vs
  | [], _, h => h
  | s :: ss, _, ⟨v, r, e, h, t⟩ => ⟨v, r, e, h.same sm, ArgsOk.same sm t⟩
theorem ArgOk.p {K : PySem.W.Frag} {N : Fb} {H : Hp} {s : Sl} {v : V} (h : ArgOk K N H s v) : ∃ d, pk s = some d ∧ DenP K N H d v := by
  cases s with
  | val d => exact ⟨d, rfl, Den.p h⟩
  | lent xs fl => obtain ⟨a, vs, e, n, q, r⟩ := h; subst e; exact ⟨_, rfl, denP_co q r⟩
  | no => exact False.elim h
  | own xs fl => exact False.elim h
  | exc c => exact False.elim h
theorem ArgsOk.length {K : PySem.W.Frag} {N : Fb} {H : Hp} : ∀ {ss : List Sl} {vs : List V}, ArgsOk K N H ss vs → ss.length = vs.length
  | [], _, h => by cases h; rfl
  | s :: ss, _, ⟨v, r, e, h, t⟩ => by subst e; simp [ArgsOk.length t]
theorem ArgsOk.get {K : PySem.W.Frag} {N : Fb} {H : Hp} : ∀ {ss : List Sl} {vs : List V} {i : Nat} {s : Sl}, ArgsOk K N H ss vs → ss[i]? = some s → ∃ v, vs[i]? = some v ∧ ArgOk K N H s v
  | [], _, i, s, h, e => by simp at e
  | _ :: ss, _, 0, s, ⟨v, r, e1, h, t⟩, e => by subst e1; simp at e; subst e; exact ⟨v, rfl, h⟩
  | _ :: ss, _, i + 1, s, ⟨v, r, e1, h, t⟩, e => by
    subst e1
    obtain ⟨w, h1, h2⟩ := ArgsOk.get (i := i) t (by simpa using e)
    exact ⟨w, by simpa using h1, h2⟩
def tA' (K : PySem.W.Frag) (M : Fb) (H0 : Hp) (f : VE → Option (List Sl)) : TA := fun σ H Q => ∃ ρ ss, Rel K M H0 ρ σ H ∧ f ρ = some ss ∧ ∀ vs H', Same H H' → ArgsOk K (Nf M ρ σ) H' ss vs → Q vs H'
def tS1 (K : PySem.W.Frag) (M : Fb) (H0 : Hp) (f : VE → Option Sl) : TE := fun σ H Q => ∃ ρ s, Rel K M H0 ρ σ H ∧ f ρ = some s ∧ ∀ v H', Same H H' → ArgOk K (Nf M ρ σ) H' s v → Q v H'
@[simp] def rdA (ρ : VE) (i : Nat) : Option Sl := match ρ[i]? with
  | some (.val d) => some (.val d)
  | some (.own xs b) => some (.lent xs b)
  | some (.lent xs b) => some (.lent xs b)
  | _ => none
@[simp] def valO (o : Option D) : Option Sl := o.map Sl.val
@[simp] def consO {α : Type} (a : Option α) (b : Option (List α)) : Option (List α) := a.bind fun x => b.bind fun y => some (x :: y)
theorem consO_inv {α : Type} {a : Option α} {b : Option (List α)} {l : List α} (h : consO a b = some l) : ∃ x y, a = some x ∧ b = some y ∧ l = x :: y := by
  cases a with
  | none => cases h
  | some x =>
    cases b with
    | none => cases h
    | some y => cases h; exact ⟨x, y, rfl, rfl, rfl⟩
section
variable {X : Cx} {K : PySem.W.Frag} {M : Fb} {H0 : Hp} {e a b : Expr} {es : List Expr} {f g : VE → Option D} {fa : VE → Option (List Sl)} {f1 : VE → Option Sl} {pos : Pos}
theorem va_var {i : Nat} {x : Str} (hN : X.N[i]? = some x) (hv : Vis X.env.scope x) (hd : (x == ("__debug__" : Str)) = false := by decide) (hcd : (x == ("__classdict__" : Str)) = false := by decide) : PE X (.Name x pos) (tS1 K M H0 fun ρ => rdA ρ i) :=
  (pe_var hN hv hd hcd).mono fun σ H Q ⟨ρ, d, R, e, q⟩ => by
    try dsimp only at e q
    have fin : ∀ v, σ[i]?.join = some v → ArgOk K (Nf M ρ σ) H d v → ∃ v, σ[i]? = some (some v) ∧ Q v H := fun v e1 h => by
      refine ⟨v, ?_, q v H (Same.refl H) h⟩
      cases z : σ[i]? with
      | none => rw [z] at e1; cases e1
      | some o => rw [z] at e1; cases e1; rfl
    unfold rdA at e
    split at e
    · next h => cases e; obtain ⟨v, e1, h⟩ := R.slot i _ h; exact fin v e1 h
    · next h =>
      cases e
      obtain ⟨a, vs, e1, _, _, h3, h4⟩ := R.slot i _ h
      refine fin _ e1 ⟨a, vs, rfl, .inr ⟨i, _, _, h, ?_⟩, .inl h3, h4⟩
      cases z : σ[i]? with
      | none => rw [z] at e1; cases e1
      | some o => rw [z] at e1; cases e1; rfl
    · next h => cases e; obtain ⟨a, vs, e1, h2, h3, h4⟩ := R.slot i _ h; exact fin _ e1 ⟨a, vs, rfl, .inl h2, h3, h4⟩
    · cases e
theorem va_e (h : PE X e (tD K M H0 f)) : PE X e (tS1 K M H0 fun ρ => valO (f ρ)) := h.mono fun σ H Q ⟨ρ, s, R, e, q⟩ => by
  try dsimp only at e q
  cases hf : f ρ with
  | none => rw [hf] at e; cases e
  | some d => rw [hf] at e; cases e; exact ⟨ρ, d, R, hf, fun v H' s hv => q v H' s hv⟩
theorem j_va_e (h : JE X e (tD K M H0 f)) : JE X e (tS1 K M H0 fun ρ => valO (f ρ)) := ⟨va_e h.h⟩
theorem va_nil : PA X [] (tA' K M H0 fun _ => some []) := pa_nil.mono fun σ H Q ⟨ρ, ss, R, e, q⟩ => by
  try dsimp only at e q
  cases e; exact q [] H (Same.refl H) rfl
theorem j_va_nil  : JA X [] (tA' K M H0 fun _ => some []) := ⟨va_nil ⟩
theorem va_cons (h : PE X e (tS1 K M H0 f1)) (hr : PA X es (tA' K M H0 fa)) (hs : starEach (e :: es) X.env = (false, eval e X.env) :: starEach es X.env := by exact star_c (fun _ _ z => nomatch z)) : PA X (e :: es) (tA' K M H0 fun ρ => consO (f1 ρ) (fa ρ)) := (pa_cons h hr hs).mono fun σ H Q ⟨ρ, ss, R, e, q⟩ => by
  try dsimp only at e q
  obtain ⟨s, r, e1, e2, e3⟩ := consO_inv e
  subst e3
  exact ⟨ρ, s, R, e1, fun v H1 s1 h1 => ⟨ρ, r, R.st s1, e2, fun vs H2 s2 h2 => q (v :: vs) H2 (s1.trans s2) ⟨v, vs, rfl, h1.same s2, h2⟩⟩⟩
theorem j_va_cons (h : JE X e (tS1 K M H0 f1)) (hr : JA X es (tA' K M H0 fa)) (hs : starEach (e :: es) X.env = (false, eval e X.env) :: starEach es X.env := by exact star_c (fun _ _ z => nomatch z)) : JA X (e :: es) (tA' K M H0 fun ρ => consO (f1 ρ) (fa ρ)) := ⟨va_cons h.h hr.h hs⟩
@[simp] def vals : List Sl → Option (List D)
  | [] => some []
  | .val d :: r => consO (some d) (vals r)
  | _ => none
theorem vals_den {K : PySem.W.Frag} {N : Fb} {H : Hp} : ∀ {ss : List Sl} {vs : List V} {ds : List D}, ArgsOk K N H ss vs → vals ss = some ds → DenL K N H ds vs
  | [], _, _, h, e => by cases e; cases h; exact DenL.nil
  | .val d :: r, _, _, ⟨v, t, e1, h, ht⟩, e => by
    obtain ⟨x, y, e2, e3, e4⟩ := consO_inv e
    cases e2; subst e1 e4
    exact DenL.cons h (vals_den ht e3)
  | .no :: _, _, _, _, e => nomatch e
  | .own _ _ :: _, _, _, _, e => nomatch e
  | .lent _ _ :: _, _, _, _, e => nomatch e
@[simp] def shortO {α : Type} (o : Option (List α)) : Option (List α) := o.bind fun l => if l.length ≤ sizeLine then some l else none
theorem shortO_inv {α : Type} {o : Option (List α)} {l : List α} (h : shortO o = some l) : o = some l ∧ l.length ≤ sizeLine := by
  cases o with
  | none => cases h
  | some x =>
    have h' : (if x.length ≤ sizeLine then some x else none) = some l := h
    split at h'
    · cases h'; exact ⟨rfl, by assumption⟩
    · cases h'
theorem same_new {H : Hp} {p : Addr} {o : HO} (h : H p = none) : Same H (upd H p o) := fun b u e => by rw [upd_ne (ne_of_none e h)]; exact e
theorem tF_new {fl : Bool} {ρ : VE} {σ : St} {H H1 : Hp} {Q : VK} {xs : List D} {vs : List V} {p : Addr} (s : Same H H1) (hp : H1 p = none) (h : DenL K (Nf M ρ σ) H1 xs vs)
    (q : ∀ a vs H', Same H H' → H a = none → H' a = some (CO fl xs vs) → DenL K (fun b => Nf M ρ σ b ∨ b = a) H' xs vs → Q (.ref a) H') : Q (.ref p) (upd H1 p (CO fl xs vs)) := by
  refine q p vs _ (s.trans (same_new hp)) (s.free hp) upd_same ?_
  refine (h.nw fun b hb => ?_).same (same_new hp)
  rcases hb with hb | hb
  · exact .inl hb
  · subst hb; exact .inr hp
theorem vf_lst (h : PA X es (tA' K M H0 fa)) : PE X (.List es pos) (tF K M H0 fun ρ => shortO ((fa ρ).bind vals)) := (pe_lst h).mono fun σ H Q ⟨ρ, xs, R, e, q⟩ => by
  try dsimp only at e q
  obtain ⟨e, hz⟩ := shortO_inv e
  cases hf : fa ρ with
  | none => rw [hf] at e; cases e
  | some ss =>
    rw [hf] at e
    refine ⟨ρ, ss, R, hf, fun vs H1 s1 h1 => ?_⟩
    have hd := vals_den h1 e
    exact ⟨by rw [← hd.length]; exact hz, fun p hp => tF_new s1 hp hd q⟩
theorem j_vf_lst (h : JA X es (tA' K M H0 fa)) : JE X (.List es pos) (tF K M H0 fun ρ => shortO ((fa ρ).bind vals)) := ⟨vf_lst h.h⟩
theorem ve_tup {x1} (h : PA X es (tA' K M H0 fa)) : PE X (.Tuple es x1 pos) (tD K M H0 fun ρ => (shortO ((fa ρ).bind vals)).map D.tup) := (pe_tup h).mono fun σ H Q ⟨ρ, d, R, e, q⟩ => by
  try dsimp only at e q
  cases hz : shortO ((fa ρ).bind vals) with
  | none => rw [hz] at e; cases e
  | some xs =>
    rw [hz] at e; cases e
    obtain ⟨e, hz⟩ := shortO_inv hz
    cases hf : fa ρ with
    | none => rw [hf] at e; cases e
    | some ss =>
      rw [hf] at e
      refine ⟨ρ, ss, R, hf, fun vs H1 s1 h1 => ?_⟩
      have hd := vals_den h1 e
      refine ⟨by rw [← hd.length]; exact hz, fun p hp => q _ _ (s1.trans (same_new hp)) ?_⟩
      simp only [Den]
      exact ⟨p, vs, rfl, SqT.of upd_same, hd.same (same_new hp)⟩
theorem j_ve_tup {x1} (h : JA X es (tA' K M H0 fa)) : JE X (.Tuple es x1 pos) (tD K M H0 fun ρ => (shortO ((fa ρ).bind vals)).map D.tup) := ⟨ve_tup h.h⟩
end
inductive Rv where
  | val (d : D) | own (xs : List D) (b : Bool := false)
def RvOk (K : PySem.W.Frag) (N : Fb) (H0 H' : Hp) : Rv → V → Prop
  | .val d, v => Den K N H' d v
  | .own xs b, v => ∃ a vs, v = .ref a ∧ H0 a = none ∧ H' a = some (CO b xs vs) ∧ DenL K (fun b => N b ∨ b = a) H' xs vs
def spD (K : PySem.W.Frag) (F : List Sl → Option Rv) : Sp := fun vs H Q _ => ∃ N ss r, (∀ a, N a → H a ≠ none) ∧ ArgsOk K N H ss vs ∧ F ss = some r ∧ ∀ v H', Same H H' → RvOk K N H H' r v → Q v H'
@[simp] def rvD : Rv → D
  | .val d => d
  | .own xs b => .lst xs b
@[simp] def rvF : Rv → Option (List D)
  | .own xs => some xs
  | _ => none
@[simp] def rvG : Rv → Option (List D)
  | .own xs true => some xs
  | _ => none
section
variable {X : Cx} {K : PySem.W.Frag} {M : Fb} {H0 : Hp} {e : Expr} {es : List Expr} {fa : VE → Option (List Sl)} {F : List Sl → Option Rv} {CX : CXT} {k : Nat} {fn : Addr} {fd : FuncData} {ps : List Str} {x : Str} {p pos : Pos} {E : XK}
@[simp] def callO (F : List Sl → Option Rv) (fa : VE → Option (List Sl)) : VE → Option D := fun ρ => (fa ρ).bind fun ss => (F ss).map rvD
@[simp] def callF (F : List Sl → Option Rv) (fa : VE → Option (List Sl)) : VE → Option (List D) := fun ρ => (fa ρ).bind fun ss => (F ss).bind rvF
theorem tCall_D {σ : St} {H : Hp} {Q : VK} (h : tD K M H0 (callO F fa) σ H Q) : tCall (spD K F) [] E (tA' K M H0 fa) σ H Q := by
  obtain ⟨ρ, d, R, e, q⟩ := h
  try dsimp only at e q
  unfold callO at e
  cases hf : fa ρ with
  | none => rw [hf] at e; cases e
  | some ss =>
    rw [hf] at e
    cases hF : F ss with
    | none => simp only [Option.bind, hF] at e; cases e
    | some r =>
      simp only [Option.bind, hF] at e; cases e
      refine ⟨ρ, ss, R, hf, fun vs H1 s1 h1 => ⟨Nf M ρ σ, ss, r, (R.st s1).nh, by rw [List.append_nil]; exact h1, hF, fun v H2 s2 h2 => q v H2 (s1.trans s2) ?_⟩⟩
      cases r with
      | val d => exact h2
      | own xs fl =>
        obtain ⟨a, ws, e1, z1, z2, z3⟩ := h2
        simp only [rvD, Den]
        exact ⟨a, ws, e1, .of (fun z => (R.st s1).fresh z1 z) z2, z3.nw fun b hb => .inl (.inl hb)⟩
@[simp] def callG (F : List Sl → Option Rv) (fa : VE → Option (List Sl)) : VE → Option (List D) := fun ρ => (fa ρ).bind fun ss => (F ss).bind rvG
theorem tCall_F {σ : St} {H : Hp} {Q : VK} (h : tF K M H0 (callF F fa) σ H Q) : tCall (spD K F) [] E (tA' K M H0 fa) σ H Q := by
  obtain ⟨ρ, d, R, e, q⟩ := h
  try dsimp only at e q
  unfold callF at e
  cases hf : fa ρ with
  | none => rw [hf] at e; cases e
  | some ss =>
    rw [hf] at e
    cases hF : F ss with
    | none => simp only [Option.bind, hF] at e; cases e
    | some r =>
      simp only [Option.bind, hF] at e
      cases r with
      | val d => cases e
      | own xs fl =>
        cases fl with
        | true => cases e
        | false =>
          cases e
          refine ⟨ρ, ss, R, hf, fun vs H1 s1 h1 => ⟨Nf M ρ σ, ss, _, (R.st s1).nh, by rw [List.append_nil]; exact h1, hF, fun v H2 s2 h2 => ?_⟩⟩
          obtain ⟨a, ws, e1, z1, z2, z3⟩ := h2
          subst e1
          exact q a ws H2 (s1.trans s2) (s1.free z1) z2 z3
theorem ve_call (G : FnOk X.prog X.w X.K X.mg X.base CX k fn fd ps (spD K F)) (hr : Room k X.A) (hg : Gl X x) (hm : X.mg x = some (.ref fn)) (hk : PySem.W.keepIn X.K (.ref fn) = true) (hb : Binds X.K fd ps []) (hx : Passes CX X E)
    (ha : PA X (e :: es) (tA' K M H0 fa)) (hdb : (x == ("__debug__" : Str)) = false := by decide) (he : starEach (e :: es) X.env = (false, eval e X.env) :: starEach es X.env := by exact star_c (fun _ _ z => nomatch z)) (hpl : (backTo pos (starEach es X.env)).any (·.1) = false := by rfl) :
    PE X (.Call (.Name x p) (e :: es) [] pos) (tD K M H0 (callO F fa)) := (pe_call G hr hg hm hk hb .nil hx ha hdb he hpl).mono fun _ _ _ h => tCall_D h
theorem j_ve_call (G : FnOk X.prog X.w X.K X.mg X.base CX k fn fd ps (spD K F)) (hr : Room k X.A) (hg : Gl X x) (hm : X.mg x = some (.ref fn)) (hk : PySem.W.keepIn X.K (.ref fn) = true) (hb : Binds X.K fd ps []) (hx : Passes CX X E) (ha : JA X (e :: es) (tA' K M H0 fa)) (hdb : (x == ("__debug__" : Str)) = false := by decide) (he : starEach (e :: es) X.env = (false, eval e X.env) :: starEach es X.env := by exact star_c (fun _ _ z => nomatch z)) (hpl : (backTo pos (starEach es X.env)).any (·.1) = false := by rfl) : JE X (.Call (.Name x p) (e :: es) [] pos) (tD K M H0 (callO F fa)) := ⟨ve_call G hr hg hm hk hb hx ha.h hdb he hpl⟩
theorem vf_call (G : FnOk X.prog X.w X.K X.mg X.base CX k fn fd ps (spD K F)) (hr : Room k X.A) (hg : Gl X x) (hm : X.mg x = some (.ref fn)) (hk : PySem.W.keepIn X.K (.ref fn) = true) (hb : Binds X.K fd ps []) (hx : Passes CX X E)
    (ha : PA X (e :: es) (tA' K M H0 fa)) (hdb : (x == ("__debug__" : Str)) = false := by decide) (he : starEach (e :: es) X.env = (false, eval e X.env) :: starEach es X.env := by exact star_c (fun _ _ z => nomatch z)) (hpl : (backTo pos (starEach es X.env)).any (·.1) = false := by rfl) :
    PE X (.Call (.Name x p) (e :: es) [] pos) (tF K M H0 (callF F fa)) := (pe_call G hr hg hm hk hb .nil hx ha hdb he hpl).mono fun _ _ _ h => tCall_F h
theorem j_vf_call (G : FnOk X.prog X.w X.K X.mg X.base CX k fn fd ps (spD K F)) (hr : Room k X.A) (hg : Gl X x) (hm : X.mg x = some (.ref fn)) (hk : PySem.W.keepIn X.K (.ref fn) = true) (hb : Binds X.K fd ps []) (hx : Passes CX X E) (ha : JA X (e :: es) (tA' K M H0 fa)) (hdb : (x == ("__debug__" : Str)) = false := by decide) (he : starEach (e :: es) X.env = (false, eval e X.env) :: starEach es X.env := by exact star_c (fun _ _ z => nomatch z)) (hpl : (backTo pos (starEach es X.env)).any (·.1) = false := by rfl) : JE X (.Call (.Name x p) (e :: es) [] pos) (tF K M H0 (callF F fa)) := ⟨vf_call G hr hg hm hk hb hx ha.h hdb he hpl⟩
end
def RcD (K : PySem.W.Frag) (r : List V → Hp → VK → Prop) (F : List D → Option D) : Prop := ∀ (N : Fb) (H : Hp) (vs : List V) (ds : List D) (d : D) (Q : VK), (∀ a, N a → H a ≠ none) → Paired (DenP K N H) ds vs → F ds = some d →
  (∀ v H', Same H H' → Den K N H' d v → Q v H') → r vs H Q
def RcF (K : PySem.W.Frag) (r : List V → Hp → VK → Prop) (F : List D → Option (List D)) : Prop := ∀ (N : Fb) (H : Hp) (vs : List V) (ds : List D) (xs : List D) (Q : VK), (∀ a, N a → H a ≠ none) → Paired (DenP K N H) ds vs → F ds = some xs →
  (∀ ws p, H p = none → DenL K N H xs ws → Q (.ref p) (upd H p (.lst ws))) → r vs H Q
@[simp] def pks : List Sl → Option (List D)
  | [] => some []
  | s :: r => consO (pk s) (pks r)
theorem pks_den {K : PySem.W.Frag} {N : Fb} {H : Hp} : ∀ {ss : List Sl} {vs : List V} {ds : List D}, ArgsOk K N H ss vs → pks ss = some ds → Paired (DenP K N H) ds vs
  | [], _, _, h, e => by cases e; cases h; exact .nil
  | s :: r, _, _, ⟨v, t, e1, h, ht⟩, e => by
    obtain ⟨x, y, e2, e3, e4⟩ := consO_inv e
    subst e1 e4
    obtain ⟨d, hd, hp⟩ := h.p
    rw [hd] at e2; cases e2
    exact .cons hp (pks_den ht e3)
section
variable {X : Cx} {K : PySem.W.Frag} {M : Fb} {H0 : Hp} {e : Expr} {es : List Expr} {fa : VE → Option (List Sl)} {x : Str} {p pos : Pos} {r : List V → Hp → VK → Prop} {F : List D → Option D} {G : List D → Option (List D)} {id : String}
@[simp] def bltO (F : List D → Option D) (fa : VE → Option (List Sl)) : VE → Option D := fun ρ => ((fa ρ).bind pks).bind F
@[simp] def bltF (F : List D → Option (List D)) (fa : VE → Option (List Sl)) : VE → Option (List D) := fun ρ => ((fa ρ).bind pks).bind F
theorem tCB_D (hr : RcD K r F) {σ : St} {H : Hp} {Q : VK} (h : tD K M H0 (bltO F fa) σ H Q) : tCB r (tA' K M H0 fa) σ H Q := by
  obtain ⟨ρ, d, R, e, q⟩ := h
  try dsimp only at e q
  unfold bltO at e
  cases hf : fa ρ with
  | none => rw [hf] at e; cases e
  | some ss =>
    rw [hf] at e
    cases hp : pks ss with
    | none => simp only [Option.bind, hp] at e; cases e
    | some ds =>
      simp only [Option.bind, hp] at e
      exact ⟨ρ, ss, R, hf, fun vs H1 s1 h1 => hr (Nf M ρ σ) H1 vs ds d Q (R.st s1).nh (pks_den h1 hp) e fun v H' s hv => q v H' (s1.trans s) hv⟩
theorem tCB_F (hr : RcF K r G) {σ : St} {H : Hp} {Q : VK} (h : tF K M H0 (bltF G fa) σ H Q) : tCB r (tA' K M H0 fa) σ H Q := by
  obtain ⟨ρ, d, R, e, q⟩ := h
  try dsimp only at e q
  unfold bltF at e
  cases hf : fa ρ with
  | none => rw [hf] at e; cases e
  | some ss =>
    rw [hf] at e
    cases hp : pks ss with
    | none => simp only [Option.bind, hp] at e; cases e
    | some ds =>
      simp only [Option.bind, hp] at e
      exact ⟨ρ, ss, R, hf, fun vs H1 s1 h1 => hr (Nf M ρ σ) H1 vs ds d Q (R.st s1).nh (pks_den h1 hp) e fun ws p hp hv => tF_new s1 hp hv q⟩
theorem ve_callB (hc : CallR X (.builtin id) r) (hF : RcD K r F) (hg : Gl X x) (hm : X.mg x = none) (hv : bootBuiltins x = some (.builtin id)) (ha : PA X (e :: es) (tA' K M H0 fa)) (hn : x ≠ "__name__" := by decide) (hdb : (x == ("__debug__" : Str)) = false := by decide)
    (he : starEach (e :: es) X.env = (false, eval e X.env) :: starEach es X.env := by exact star_c (fun _ _ z => nomatch z)) (hpl : (backTo pos (starEach es X.env)).any (·.1) = false := by rfl) : PE X (.Call (.Name x p) (e :: es) [] pos) (tD K M H0 (bltO F fa)) :=
  (pe_callB hc hg hm hv ha hn hdb he hpl).mono fun _ _ _ h => tCB_D hF h
theorem j_ve_callB (hc : CallR X (.builtin id) r) (hF : RcD K r F) (hg : Gl X x) (hm : X.mg x = none) (hv : bootBuiltins x = some (.builtin id)) (ha : JA X (e :: es) (tA' K M H0 fa)) (hn : x ≠ "__name__" := by decide) (hdb : (x == ("__debug__" : Str)) = false := by decide) (he : starEach (e :: es) X.env = (false, eval e X.env) :: starEach es X.env := by exact star_c (fun _ _ z => nomatch z)) (hpl : (backTo pos (starEach es X.env)).any (·.1) = false := by rfl) : JE X (.Call (.Name x p) (e :: es) [] pos) (tD K M H0 (bltO F fa)) := ⟨ve_callB hc hF hg hm hv ha.h hn hdb he hpl⟩
theorem ve_callTy (hc : CallR X (.type id) r) (hF : RcD K r F) (hg : Gl X x) (hm : X.mg x = none) (hv : bootBuiltins x = some (.type id)) (ha : PA X (e :: es) (tA' K M H0 fa)) (hn : x ≠ "__name__" := by decide) (hdb : (x == ("__debug__" : Str)) = false := by decide)
    (he : starEach (e :: es) X.env = (false, eval e X.env) :: starEach es X.env := by exact star_c (fun _ _ z => nomatch z)) (hpl : (backTo pos (starEach es X.env)).any (·.1) = false := by rfl) : PE X (.Call (.Name x p) (e :: es) [] pos) (tD K M H0 (bltO F fa)) :=
  (pe_callTy hc hg hm hv ha hn hdb he hpl).mono fun _ _ _ h => tCB_D hF h
theorem j_ve_callTy (hc : CallR X (.type id) r) (hF : RcD K r F) (hg : Gl X x) (hm : X.mg x = none) (hv : bootBuiltins x = some (.type id)) (ha : JA X (e :: es) (tA' K M H0 fa)) (hn : x ≠ "__name__" := by decide) (hdb : (x == ("__debug__" : Str)) = false := by decide) (he : starEach (e :: es) X.env = (false, eval e X.env) :: starEach es X.env := by exact star_c (fun _ _ z => nomatch z)) (hpl : (backTo pos (starEach es X.env)).any (·.1) = false := by rfl) : JE X (.Call (.Name x p) (e :: es) [] pos) (tD K M H0 (bltO F fa)) := ⟨ve_callTy hc hF hg hm hv ha.h hn hdb he hpl⟩
theorem vf_callTy (hc : CallR X (.type id) r) (hF : RcF K r G) (hg : Gl X x) (hm : X.mg x = none) (hv : bootBuiltins x = some (.type id)) (ha : PA X (e :: es) (tA' K M H0 fa)) (hn : x ≠ "__name__" := by decide) (hdb : (x == ("__debug__" : Str)) = false := by decide)
    (he : starEach (e :: es) X.env = (false, eval e X.env) :: starEach es X.env := by exact star_c (fun _ _ z => nomatch z)) (hpl : (backTo pos (starEach es X.env)).any (·.1) = false := by rfl) : PE X (.Call (.Name x p) (e :: es) [] pos) (tF K M H0 (bltF G fa)) :=
  (pe_callTy hc hg hm hv ha hn hdb he hpl).mono fun _ _ _ h => tCB_F hF h
theorem j_vf_callTy (hc : CallR X (.type id) r) (hF : RcF K r G) (hg : Gl X x) (hm : X.mg x = none) (hv : bootBuiltins x = some (.type id)) (ha : JA X (e :: es) (tA' K M H0 fa)) (hn : x ≠ "__name__" := by decide) (hdb : (x == ("__debug__" : Str)) = false := by decide) (he : starEach (e :: es) X.env = (false, eval e X.env) :: starEach es X.env := by exact star_c (fun _ _ z => nomatch z)) (hpl : (backTo pos (starEach es X.env)).any (·.1) = false := by rfl) : JE X (.Call (.Name x p) (e :: es) [] pos) (tF K M H0 (bltF G fa)) := ⟨vf_callTy hc hF hg hm hv ha.h hn hdb he hpl⟩
theorem RcD.or {r r' : List V → Hp → VK → Prop} {F F' : List D → Option D} (h : RcD K r F) (h' : RcD K r' F') : RcD K (fun xs H Q => r xs H Q ∨ r' xs H Q) (fun ds => orO (F ds) (F' ds)) := by
  intro N H vs ds d Q nh h1 e q
  cases hF : F ds with
  | some z => simp only [hF, orO] at e; cases e; exact .inl (h N H vs ds d Q nh h1 hF q)
  | none => simp only [hF, orO] at e; exact .inr (h' N H vs ds d Q nh h1 e q)
end
inductive Res where
  | fail | next (ρ : VE) | brk (ρ : VE) | cont (ρ : VE) | ret (r : Rv)
def Beh (K : PySem.W.Frag) (M : Fb) (H0 : Hp) (ρ : VE) (σ : St) (H : Hp) (ρ' : VE) (Q : St → Hp → Prop) : Prop := ∀ σ' H', Rel K M H0 ρ' σ' H' → Step M (Nf M ρ σ) (Nf M ρ' σ') H H' → Q σ' H'
def resOk (K : PySem.W.Frag) (M : Fb) (H0 : Hp) (ρ : VE) (σ : St) (H : Hp) (D : Ends) : Res → Prop
  | .fail => False
  | .next ρ' => Beh K M H0 ρ σ H ρ' D.nx
  | .brk ρ' => Beh K M H0 ρ σ H ρ' D.bk
  | .cont ρ' => Beh K M H0 ρ σ H ρ' D.ct
  | .ret r => ∀ v H', Same H0 H' → RvOk K M H0 H' r v → D.rt v H'
def tS (K : PySem.W.Frag) (M : Fb) (H0 : Hp) (g : VE → Res) : TS := fun D σ H => ∃ ρ, Rel K M H0 ρ σ H ∧ resOk K M H0 ρ σ H D (g ρ)
@[simp] def seqR (a : Res) (g : VE → Res) : Res := match a with
  | .next ρ => g ρ
  | r => r
theorem Beh.from {K : PySem.W.Frag} {M : Fb} {H0 : Hp} {ρ ρ1 ρ' : VE} {σ σ1 : St} {H H1 : Hp} {Q : St → Hp → Prop} (s : Step M (Nf M ρ σ) (Nf M ρ1 σ1) H H1) (h : Beh K M H0 ρ σ H ρ' Q) : Beh K M H0 ρ1 σ1 H1 ρ' Q :=
  fun σ' H' R s' => h σ' H' R (s.trans s')
theorem resOk.from {K : PySem.W.Frag} {M : Fb} {H0 : Hp} {ρ ρ1 : VE} {σ σ1 : St} {H H1 : Hp} {D : Ends} {r : Res} (s : Step M (Nf M ρ σ) (Nf M ρ1 σ1) H H1) (h : resOk K M H0 ρ σ H D r) : resOk K M H0 ρ1 σ1 H1 D r := by
  cases r with
  | fail => exact h
  | next ρ' => exact Beh.from s h
  | brk ρ' => exact Beh.from s h
  | cont ρ' => exact Beh.from s h
  | ret r => exact h
section
variable {X : Cx} {K : PySem.W.Frag} {M : Fb} {H0 : Hp} {st : Stmt} {rest : List Stmt} {g g1 g2 : VE → Res} {pos : Pos} {e : Expr} {f : VE → Option D}
theorem vs_nil : PSs X [] (tS K M H0 fun ρ => .next ρ) := pss_nil.mono fun D σ H ⟨ρ, R, q⟩ => q σ H R Step.refl
theorem j_vs_nil  : JB X [] (tS K M H0 fun ρ => .next ρ) := ⟨vs_nil ⟩
theorem vs_cons (h1 : PS X st (tS K M H0 g1)) (h2 : PSs X rest (tS K M H0 g2)) : PSs X (st :: rest) (tS K M H0 fun ρ => seqR (g1 ρ) g2) := (pss_cons h1 h2).mono fun D σ H ⟨ρ, R, q⟩ => by
  try dsimp only at q
  refine ⟨ρ, R, ?_⟩
  cases hg : g1 ρ with
  | fail => rw [hg] at q; exact q
  | next ρ1 => rw [hg] at q; exact fun σ1 H1 R1 s1 => ⟨ρ1, R1, q.from s1⟩
  | brk ρ1 => rw [hg] at q; exact q
  | cont ρ1 => rw [hg] at q; exact q
  | ret r => rw [hg] at q; exact q
theorem j_vs_cons (h1 : JS X st (tS K M H0 g1)) (h2 : JB X rest (tS K M H0 g2)) : JB X (st :: rest) (tS K M H0 fun ρ => seqR (g1 ρ) g2) := ⟨vs_cons h1.h h2.h⟩
@[simp] def retO (o : Option D) : Res := match o with
  | some d => .ret (.val d)
  | none => .fail
theorem vs_ret (h : PE X e (tD K M H0 f)) : PS X (.Return (some e) pos) (tS K M H0 fun ρ => retO (f ρ)) := (ps_ret h).mono fun D σ H ⟨ρ, R, q⟩ => by
  try dsimp only at q
  cases hf : f ρ with
  | none => rw [hf] at q; exact False.elim q
  | some d =>
    rw [hf] at q
    exact ⟨ρ, d, R, hf, fun v H' s hv => q v H' (R.same.trans s) (hv.nw fun a ha => .inl (.inl ha))⟩
theorem j_vs_ret (h : JE X e (tD K M H0 f)) : JS X (.Return (some e) pos) (tS K M H0 fun ρ => retO (f ρ)) := ⟨vs_ret h.h⟩
@[simp] def retF (o : Option (List D)) : Res := match o with
  | some xs => .ret (.own xs)
  | none => .fail
@[simp] def retG (o : Option (List D)) : Res := match o with
  | some xs => .ret (.own xs true)
  | none => .fail
@[simp] def rdO (ρ : VE) (i : Nat) : Option (List D) := match ρ[i]? with
  | some (.own xs) => some xs
  | _ => none
theorem rdO_slot {ρ : VE} {i : Nat} {xs : List D} (h : rdO ρ i = some xs) : ρ[i]? = some (.own xs) := by
  unfold rdO at h
  split at h
  · cases h; assumption
  · cases h
@[simp] def rdG (ρ : VE) (i : Nat) : Option (List D) := match ρ[i]? with
  | some (.own xs true) => some xs
  | _ => none
theorem join_some {σ : St} {i : Nat} {v : V} (e1 : σ[i]?.join = some v) : σ[i]? = some (some v) := by
  cases z : σ[i]? with
  | none => rw [z] at e1; cases e1
  | some o => rw [z] at e1; cases e1; rfl
theorem vs_retO {i : Nat} {x : Str} {vpos : Pos} (hN : X.N[i]? = some x) (hv : Vis X.env.scope x) (hd : (x == ("__debug__" : Str)) = false := by decide) (hcd : (x == ("__classdict__" : Str)) = false := by decide) :
    PS X (.Return (some (.Name x vpos)) pos) (tS K M H0 fun ρ => retF (rdO ρ i)) := (ps_ret (pe_var hN hv hd hcd)).mono fun D σ H ⟨ρ, R, q⟩ => by
  try dsimp only at q
  cases hf : rdO ρ i with
  | none => rw [hf] at q; exact False.elim q
  | some xs =>
    rw [hf] at q
    obtain ⟨a, vs, e1, z1, z2, z3, z4⟩ := R.slot i _ (rdO_slot hf)
    refine ⟨.ref a, join_some e1, q (.ref a) H R.same ⟨a, vs, rfl, z1, z3, z4.nw fun b hb => .inl ?_⟩⟩
    rcases hb with hb | hb
    · exact .inl hb
    · subst hb; exact .inr ⟨i, xs, _, rdO_slot hf, join_some e1⟩
@[simp] def iteR (c : Option Bool) (a b : Res) : Res := match c with
  | some true => a
  | some false => b
  | none => .fail
theorem vs_if {c : Expr} {a b : List Stmt} {t : VE → Option Bool} (hc : PT X c (tB' K M H0 t)) (ha : PSs X a (tS K M H0 g1)) (hb : PSs X b (tS K M H0 g2)) : PS X (.If c a b pos) (tS K M H0 fun ρ => iteR (t ρ) (g1 ρ) (g2 ρ)) := (ps_if hc ha hb).mono fun D σ H ⟨ρ, R, q⟩ => by
  try dsimp only at q
  cases ht : t ρ with
  | none => rw [ht] at q; exact False.elim q
  | some k =>
    rw [ht] at q
    refine ⟨ρ, k, R, ht, fun H1 s => ?_⟩
    cases k with
    | true => refine ite_t ?_; exact ⟨ρ, R.st s, resOk.from (Step.of_same s) q⟩
    | false => refine ite_f ?_; exact ⟨ρ, R.st s, resOk.from (Step.of_same s) q⟩
theorem j_vs_if {c : Expr} {a b : List Stmt} {t : VE → Option Bool} (hc : JT X c (tB' K M H0 t)) (ha : JB X a (tS K M H0 g1)) (hb : JB X b (tS K M H0 g2)) : JS X (.If c a b pos) (tS K M H0 fun ρ => iteR (t ρ) (g1 ρ) (g2 ρ)) := ⟨vs_if hc.h ha.h hb.h⟩
theorem set_get {α : Type} {l : List α} {i : Nat} {x y : α} (h : (l.set i x)[i]? = some y) : i < l.length ∧ x = y := by
  by_cases hi : i < l.length
  · rw [List.getElem?_set_self hi] at h; exact ⟨hi, Option.some.inj h⟩
  · rw [List.getElem?_eq_none (by simpa using Nat.le_of_not_lt hi)] at h; cases h
theorem nf_set {M : Fb} {ρ : VE} {σ : St} {i : Nat} {s : Sl} {v : V} {b : Addr} (hl : ρ.length = σ.length) (h : Nf M (ρ.set i s) (σ.set i (some v)) b) : Nf M ρ σ b ∨ ∃ xs fl, s = .own xs fl ∧ v = .ref b := by
  rcases h with h | ⟨j, xs, fl, h1, h2⟩
  · exact .inl (.inl h)
  · by_cases e : i = j
    · subst e
      have q1 := (set_get h1).2
      have q2 := (set_get h2).2
      cases q1; cases q2; exact .inr ⟨xs, fl, rfl, rfl⟩
    · rw [List.getElem?_set_ne e] at h1 h2
      exact .inl (.inr ⟨j, xs, fl, h1, h2⟩)
theorem Rel.put {ρ : VE} {σ : St} {H H' : Hp} {i : Nat} {s : Sl} {v : V} (R : Rel K M H0 ρ σ H) (S : Step M (Nf M ρ σ) (Nf M (ρ.set i s) (σ.set i (some v))) H H') (sm : Same H0 H')
    (ow : ∀ j a vs xs fl, j ≠ i → ρ[j]? = some (.own xs fl) → σ[j]? = some (some (.ref a)) → H a = some (CO fl xs vs) → H' a = some (CO fl xs vs))
    (hs : i < ρ.length → SlOk K M (Nf M (ρ.set i s) (σ.set i (some v))) H0 H' s (some v))
    (hinj : ∀ xs fl a j ys fl', s = .own xs fl → v = .ref a → j ≠ i → ρ[j]? = some (.own ys fl') → σ[j]? ≠ some (some (.ref a))) : Rel K M H0 (ρ.set i s) (σ.set i (some v)) H' where
  len := by rw [List.length_set, List.length_set]; exact R.len
  same := sm
  mh := fun a h z => by
    cases e : H a with
    | none => exact R.mh a h e
    | some o => rw [S.kp a o e (.inr (.inl h))] at z; cases z
  slot := fun j sl e => by
    by_cases eij : i = j
    · subst eij
      obtain ⟨hi, e⟩ := set_get e
      subst e
      rw [List.getElem?_set_self (by rw [← R.len]; exact hi)]
      exact hs hi
    · rw [List.getElem?_set_ne eij] at e ⊢
      have q := R.slot j sl e
      cases sl with
      | no => trivial
      | val d => obtain ⟨u, e1, h⟩ := q; exact ⟨u, e1, Den.step S d u h⟩
      | own xs fl => obtain ⟨a, vs, e1, h1, h2, h3, h4⟩ := q; exact ⟨a, vs, e1, h1, h2, ow j a vs xs fl (Ne.symm eij) e (join_some e1) h3, DenL.step S xs vs h4⟩
      | lent xs fl => obtain ⟨a, vs, e1, h1, h2, h3⟩ := q; exact ⟨a, vs, e1, h1, h2.step S (.inr (.inl h1)), DenL.step S xs vs h3⟩
      | exc c => obtain ⟨a, C, e1, h1, h2⟩ := q; exact ⟨a, C, e1, h1, S.kp _ _ h2 (.inr (.inr rfl))⟩
  inj := fun j k xs ys fl fl' a h1 h2 h3 h4 => by
    by_cases ej : i = j
    · by_cases ek : i = k
      · rw [← ej, ek]
      · subst ej
        rw [List.getElem?_set_ne ek] at h2 h4
        have q1 := (set_get h1).2
        have q3 := (set_get h3).2
        cases q1; cases q3; exact absurd h4 (hinj xs fl a k ys fl' rfl rfl (Ne.symm ek) h2)
    · rw [List.getElem?_set_ne ej] at h1 h3
      by_cases ek : i = k
      · subst ek
        have q2 := (set_get h2).2
        have q4 := (set_get h4).2
        cases q2; cases q4; exact absurd h3 (hinj ys fl' a j xs fl rfl rfl (Ne.symm ej) h1)
      · rw [List.getElem?_set_ne ek] at h2 h4
        exact R.inj j k xs ys fl fl' a h1 h2 h3 h4
theorem Rel.setV {ρ : VE} {σ : St} {H H' : Hp} {i : Nat} {d : D} {v : V} (R : Rel K M H0 ρ σ H) (s : Same H H') (h : Den K (Nf M ρ σ) H' d v) :
    Rel K M H0 (ρ.set i (.val d)) (σ.set i (some v)) H' ∧ Step M (Nf M ρ σ) (Nf M (ρ.set i (.val d)) (σ.set i (some v))) H H' := by
  have S : Step M (Nf M ρ σ) (Nf M (ρ.set i (.val d)) (σ.set i (some v))) H H' := ⟨fun a o e _ => s a o e, fun b hb => by
    rcases nf_set R.len hb with q | ⟨xs, _, e, _⟩
    · exact .inl q
    · cases e⟩
  refine ⟨R.put S (R.same.trans s) (fun j a vs xs fl _ _ _ e => s _ _ e) (fun _ => ⟨v, rfl, h.nw fun b hb => ?_⟩) (fun xs fl a j ys fl' e => nomatch e), S⟩
  rcases nf_set R.len hb with q | ⟨xs, _, e, _⟩
  · exact .inl q
  · cases e
theorem Rel.setO {fl : Bool} {ρ : VE} {σ : St} {H H' : Hp} {i : Nat} {xs : List D} {a : Addr} {vs : List V} (R : Rel K M H0 ρ σ H) (s : Same H H') (hn : H a = none) (ha : H' a = some (CO fl xs vs)) (h : DenL K (fun b => Nf M ρ σ b ∨ b = a) H' xs vs) :
    Rel K M H0 (ρ.set i (.own xs fl)) (σ.set i (some (.ref a))) H' ∧ Step M (Nf M ρ σ) (Nf M (ρ.set i (.own xs fl)) (σ.set i (some (.ref a)))) H H' := by
  have nf : ∀ b, Nf M (ρ.set i (.own xs fl)) (σ.set i (some (.ref a))) b → Nf M ρ σ b ∨ b = a := fun b hb => by
    rcases nf_set R.len hb with q | ⟨xs, fl, e, e'⟩
    · exact .inl q
    · cases e'; exact .inr rfl
  have S : Step M (Nf M ρ σ) (Nf M (ρ.set i (.own xs fl)) (σ.set i (some (.ref a)))) H H' := ⟨fun a o e _ => s a o e, fun b hb => by
    rcases nf b hb with q | q
    · exact .inl q
    · subst q; exact .inr hn⟩
  refine ⟨R.put S (R.same.trans s) (fun j a vs xs fl _ _ _ e => s _ _ e) (fun _ => ⟨a, vs, rfl, R.same.free hn, fun hm => R.fresh hn (.inl hm), ha, h.nw fun b hb => .inl (nf b hb)⟩) (fun xs' fl' a' j ys fl2 e e' hj h1 h2 => ?_), S⟩
  cases e'
  exact R.fresh hn (.inr ⟨j, ys, fl2, h1, h2⟩)
theorem Rel.chg {fl fl2 : Bool} {ρ : VE} {σ : St} {H : Hp} {i : Nat} {xs ys : List D} {a : Addr} {ws : List V} (R : Rel K M H0 ρ σ H) (hi : ρ[i]? = some (.own xs fl)) (ha : σ[i]? = some (some (.ref a))) (h : DenL K (Nf M ρ σ) H ys ws) :
    Rel K M H0 (ρ.set i (.own ys fl2)) σ (upd H a (CO fl2 ys ws)) ∧ Step M (Nf M ρ σ) (Nf M (ρ.set i (.own ys fl2)) σ) H (upd H a (CO fl2 ys ws)) := by
  obtain ⟨a', vs, e1, z1, z2, z3, z4⟩ := R.slot i _ hi
  rw [ha] at e1
  have ea : a = a' := by simpa using e1
  subst ea
  have hσ : σ.set i (some (.ref a)) = σ := by
    apply List.ext_getElem?
    intro j
    by_cases e : i = j
    · subst e
      rw [List.getElem?_set_self (List.getElem?_eq_some_iff.mp ha).1, ha]
    · rw [List.getElem?_set_ne e]
  have na : Nf M ρ σ a := .inr ⟨i, xs, fl, hi, ha⟩
  have nf : ∀ b, Nf M (ρ.set i (.own ys fl2)) (σ.set i (some (.ref a))) b → Nf M ρ σ b := fun b hb => by
    rcases nf_set R.len hb with q | ⟨xs, _, e, e'⟩
    · exact q
    · cases e'; exact na
  have S : Step M (Nf M ρ σ) (Nf M (ρ.set i (.own ys fl2)) (σ.set i (some (.ref a)))) H (upd H a (CO fl2 ys ws)) := ⟨fun b o e z => by
      have ne : b ≠ a := by
        rintro rfl
        rcases z with z | z | z
        · exact z na
        · exact z2 z
        · rw [z3] at e; cases e; rw [isL_CO] at z; cases z
      rw [upd_ne ne]; exact e, fun b hb => .inl (nf b hb)⟩
  have key : Rel K M H0 (ρ.set i (.own ys fl2)) (σ.set i (some (.ref a))) (upd H a (CO fl2 ys ws)) := by
    refine R.put S (fun b o e => ?_) (fun j b us xs' fl' hj h1 h2 h3 => ?_) (fun _ => ⟨a, ws, rfl, z1, z2, upd_same, DenL.step S ys ws h⟩) (fun xs' fl3 b j ys' fl' e e' hj h1 h2 => ?_)
    · have ne : b ≠ a := by
        rintro rfl
        rw [z1] at e; cases e
      rw [upd_ne ne]; exact R.same b o e
    · have ne : b ≠ a := by
        rintro rfl
        exact hj (R.inj j i xs' xs fl' fl b h1 hi h2 ha)
      rw [upd_ne ne]; exact h3
    · cases e'
      exact hj (R.inj j i ys' xs fl' fl _ h1 hi h2 ha)
  rw [hσ] at key S
  exact ⟨key, S⟩
theorem Rel.frz {fl : Bool} {ρ : VE} {σ : St} {H : Hp} {i : Nat} {xs : List D} (R : Rel K M H0 ρ σ H) (hi : ρ[i]? = some (.own xs fl)) :
    Rel K M H0 (ρ.set i (.val (.lst xs fl))) σ H ∧ Step M (Nf M ρ σ) (Nf M (ρ.set i (.val (.lst xs fl))) σ) H H := by
  obtain ⟨a, vs, e1, z1, z2, z3, z4⟩ := R.slot i _ hi
  have ha := join_some e1
  have hσ : σ.set i (some (.ref a)) = σ := by
    apply List.ext_getElem?
    intro j
    by_cases e : i = j
    · subst e
      rw [List.getElem?_set_self (List.getElem?_eq_some_iff.mp ha).1, ha]
    · rw [List.getElem?_set_ne e]
  have nf : ∀ b, Nf M (ρ.set i (.val (.lst xs fl))) (σ.set i (some (.ref a))) b → Nf M ρ σ b := fun b hb => by
    rcases nf_set R.len hb with q | ⟨xs, _, e, e'⟩
    · exact q
    · cases e
  have nna : ¬ Nf M (ρ.set i (.val (.lst xs fl))) (σ.set i (some (.ref a))) a := by
    rintro (h | ⟨j, ys, fl', h1, h2⟩)
    · exact z2 h
    · by_cases e : i = j
      · subst e
        have q1 := (set_get h1).2
        cases q1
      · rw [List.getElem?_set_ne e] at h1 h2
        exact e (R.inj i j xs ys _ _ a hi h1 ha h2)
  have S : Step M (Nf M ρ σ) (Nf M (ρ.set i (.val (.lst xs fl))) (σ.set i (some (.ref a)))) H H := ⟨fun _ _ e _ => e, fun b hb => .inl (nf b hb)⟩
  have key : Rel K M H0 (ρ.set i (.val (.lst xs fl))) (σ.set i (some (.ref a))) H := by
    refine R.put S R.same (fun _ _ _ _ _ _ _ _ h => h) (fun _ => ⟨.ref a, rfl, ?_⟩) (fun xs' _ b j ys' _ e => nomatch e)
    simp only [Den]
    exact ⟨a, vs, rfl, .of nna z3, DenL.step S xs vs z4⟩
  rw [hσ] at key S
  exact ⟨key, S⟩
@[simp] def setR (i : Nat) (o : Option D) (ρ : VE) : Res := match o with
  | some d => .next (ρ.set i (.val d))
  | none => .fail
@[simp] def setRF (i : Nat) (o : Option (List D)) (ρ : VE) : Res := match o with
  | some xs => .next (ρ.set i (.own xs))
  | none => .fail
@[simp] def setRG (i : Nat) (o : Option (List D)) (ρ : VE) : Res := match o with
  | some xs => .next (ρ.set i (.own xs true))
  | none => .fail
theorem tAsg_D {i : Nat} {D' : Ends} {σ : St} {H : Hp} (h : tS K M H0 (fun ρ => setR i (f ρ) ρ) D' σ H) : tAsg (tD K M H0 f) (gName i) D' σ H := by
  obtain ⟨ρ, R, q⟩ := h
  try dsimp only at q
  cases hf : f ρ with
  | none => simp only [hf, setR] at q; exact False.elim q
  | some d =>
    simp only [hf, setR] at q
    refine ⟨ρ, d, R, hf, fun v H1 s hv => ?_⟩
    obtain ⟨R1, S1⟩ := R.setV (i := i) s hv
    exact q _ _ R1 S1
theorem tAsg_F {f : VE → Option (List D)} {i : Nat} {D' : Ends} {σ : St} {H : Hp} (h : tS K M H0 (fun ρ => setRF i (f ρ) ρ) D' σ H) : tAsg (tF K M H0 f) (gName i) D' σ H := by
  obtain ⟨ρ, R, q⟩ := h
  try dsimp only at q
  cases hf : f ρ with
  | none => simp only [hf, setRF] at q; exact False.elim q
  | some d =>
    simp only [hf, setRF] at q
    refine ⟨ρ, d, R, hf, fun a vs H1 s z1 z2 z3 => ?_⟩
    obtain ⟨R1, S1⟩ := R.setO (i := i) s z1 z2 z3
    exact q _ _ R1 S1
theorem vs_set {i : Nat} {x : Str} {pos' : Pos} (hN : X.N.Nodup) (hi : X.N[i]? = some x) (hx : Loc X.env.scope x) (he : PE X e (tD K M H0 f)) (hs : swapsWith e (some (.Name x pos')) pos.line X.env = pure false := by rfl) (hf : X.fn x = true ∨ X.env.scope.names.lookup x = some .local := by first | exact .inl rfl | exact .inr rfl | assumption) :
    PS X (.Assign [.Name x pos'] e pos) (tS K M H0 fun ρ => setR i (f ρ) ρ) := (ps_set hN hi hx he hs hf).mono fun _ _ _ q => tAsg_D q
theorem j_vs_set {i : Nat} {x : Str} {pos' : Pos} (hN : X.N.Nodup) (hi : X.N[i]? = some x) (hx : Loc X.env.scope x) (he : JE X e (tD K M H0 f)) (hs : swapsWith e (some (.Name x pos')) pos.line X.env = pure false := by rfl) (hf : X.fn x = true ∨ X.env.scope.names.lookup x = some .local := by first | exact .inl rfl | exact .inr rfl | assumption) : JS X (.Assign [.Name x pos'] e pos) (tS K M H0 fun ρ => setR i (f ρ) ρ) := ⟨vs_set hN hi hx he.h hs hf⟩
theorem vs_setF {f : VE → Option (List D)} {i : Nat} {x : Str} {pos' : Pos} (hN : X.N.Nodup) (hi : X.N[i]? = some x) (hx : Loc X.env.scope x) (he : PE X e (tF K M H0 f)) (hs : swapsWith e (some (.Name x pos')) pos.line X.env = pure false := by rfl) (hf : X.fn x = true ∨ X.env.scope.names.lookup x = some .local := by first | exact .inl rfl | exact .inr rfl | assumption) :
    PS X (.Assign [.Name x pos'] e pos) (tS K M H0 fun ρ => setRF i (f ρ) ρ) := (ps_set hN hi hx he hs hf).mono fun _ _ _ q => tAsg_F q
theorem j_vs_setF {f : VE → Option (List D)} {i : Nat} {x : Str} {pos' : Pos} (hN : X.N.Nodup) (hi : X.N[i]? = some x) (hx : Loc X.env.scope x) (he : JE X e (tF K M H0 f)) (hs : swapsWith e (some (.Name x pos')) pos.line X.env = pure false := by rfl) (hf : X.fn x = true ∨ X.env.scope.names.lookup x = some .local := by first | exact .inl rfl | exact .inr rfl | assumption) : JS X (.Assign [.Name x pos'] e pos) (tS K M H0 fun ρ => setRF i (f ρ) ρ) := ⟨vs_setF hN hi hx he.h hs hf⟩
@[simp] def frzR (i : Nat) (ρ : VE) : VE := match ρ[i]? with
  | some (.own xs b) => ρ.set i (.val (.lst xs b))
  | _ => ρ
@[simp] def appR (i : Nat) (o : Option D) (ρ : VE) : Res := match rdO ρ i, o with
  | some xs, some d => if xs.length < sizeLine then .next (ρ.set i (.own (xs ++ [d]))) else .fail
  | _, _ => .fail
theorem vs_append {i : Nat} {x : Str} {vpos apos cpos : Pos} (hN : X.N[i]? = some x) (hv : Vis X.env.scope x) (he : PE X e (tD K M H0 f)) (hd : (x == ("__debug__" : Str)) = false := by decide) (hcd : (x == ("__classdict__" : Str)) = false := by decide)
    (hs : swapsWith (.Call (.Attribute (.Name x vpos) "append" apos) [e] [] cpos) none pos.line X.env = pure false := by rfl)
    (hbase : attributeBase (.Name x vpos) "append" X.env (eval (.Name x vpos) X.env) = eval (.Name x vpos) X.env := by rfl)
    (hfew : ((backTo cpos (starEach [e] X.env)).all (fun x => !x.1) && (backToKw cpos (keywordEach [] X.env)).all (fun x => x.1.isSome)
      && decide ([e].length + ([] : List Keyword).length + (if ([] : List Keyword).isEmpty then 0 else 1) < 30)) = true := by rfl)
    (hline : (apos.endLine == cpos.line) = true := by rfl) (hst : starEach [e] X.env = (false, eval e X.env) :: starEach [] X.env := by rfl) (hpl : (backTo cpos (starEach [] X.env)).any (·.1) = false := by rfl) :
    PS X (.Expr (.Call (.Attribute (.Name x vpos) "append" apos) [e] [] cpos) pos) (tS K M H0 fun ρ => appR i (f ρ) ρ) :=
  (ps_expr (pe_bm PySem.F.plainAttrs_list PySem.F.slot_list_append PySem.F.type_list_append mt_append (pe_var hN hv hd hcd) (pa_cons he pa_nil hst) hbase hfew hline hst hpl) hs).mono fun D' σ H ⟨ρ, R, q⟩ => by
    try dsimp only at q
    cases hr : rdO ρ i with
    | none => simp only [hr, appR] at q; exact False.elim q
    | some xs =>
      cases hf : f ρ with
      | none => simp only [hr, hf, appR] at q; exact False.elim q
      | some d =>
        simp only [hr, hf, appR] at q
        split at q
        · next hz =>
          have hi := rdO_slot hr
          obtain ⟨a, vs, e1, z1, z2, z3, z4⟩ := R.slot i _ hi
          have ha := join_some e1
          refine ⟨.ref a, ha, .inl ⟨rfl, vs, .inl (.inl z3)⟩, ρ, d, R, hf, fun v H1 s hv => ?_⟩
          have R1 := R.st s
          obtain ⟨R2, S2⟩ := R1.chg (ys := xs ++ [d]) (ws := vs ++ [v]) hi ha ((z4.same s).append (DenL.cons hv DenL.nil))
          exact ⟨a, vs, v, rfl, rfl, s _ _ z3, by rw [← z4.length]; exact hz, q _ _ R2 ((Step.of_same s).trans S2)⟩
        · exact False.elim q
theorem j_vs_append {i : Nat} {x : Str} {vpos apos cpos : Pos} (hN : X.N[i]? = some x) (hv : Vis X.env.scope x) (he : JE X e (tD K M H0 f)) (hd : (x == ("__debug__" : Str)) = false := by decide) (hcd : (x == ("__classdict__" : Str)) = false := by decide) (hs : swapsWith (.Call (.Attribute (.Name x vpos) "append" apos) [e] [] cpos) none pos.line X.env = pure false := by rfl) (hbase : attributeBase (.Name x vpos) "append" X.env (eval (.Name x vpos) X.env) = eval (.Name x vpos) X.env := by rfl) (hfew : ((backTo cpos (starEach [e] X.env)).all (fun x => !x.1) && (backToKw cpos (keywordEach [] X.env)).all (fun x => x.1.isSome)
      && decide ([e].length + ([] : List Keyword).length + (if ([] : List Keyword).isEmpty then 0 else 1) < 30)) = true := by rfl) (hline : (apos.endLine == cpos.line) = true := by rfl) (hst : starEach [e] X.env = (false, eval e X.env) :: starEach [] X.env := by rfl) (hpl : (backTo cpos (starEach [] X.env)).any (·.1) = false := by rfl) : JS X (.Expr (.Call (.Attribute (.Name x vpos) "append" apos) [e] [] cpos) pos) (tS K M H0 fun ρ => appR i (f ρ) ρ) := ⟨vs_append hN hv he.h hd hcd hs hbase hfew hline hst hpl⟩
end
def ItOk (K : PySem.W.Frag) (M N : Fb) (H1 : Hp) (J : It) (ds : List D) : Prop := ∀ N2 H2, Step M N N2 H1 H2 → ∀ i, (∀ d, ds[i]? = some d → J.go i H2 ∧ ∀ x H3, J.yld i H2 x H3 → Same H2 H3 ∧ Den K N2 H3 d x) ∧ (i = ds.length → J.stop i H2)
def tI (K : PySem.W.Frag) (M : Fb) (H0 : Hp) (f : VE → Option (List D)) : TI := fun σ H R => ∃ ρ ds, Rel K M H0 ρ σ H ∧ f ρ = some ds ∧ ∀ J H1, Same H H1 → ItOk K M (Nf M ρ σ) H1 J ds → R J H1
def tG (K : PySem.W.Frag) (M : Fb) (H0 : Hp) (ws : List Nat) (b : D → VE → Option VE) : TG := fun v σ H Q => ∃ ρ d ρ', Rel K M H0 ρ σ H ∧ Den K (Nf M ρ σ) H d v ∧ b d ρ = some ρ' ∧ ∀ σ' , Rel K M H0 ρ' σ' H → Step M (Nf M ρ σ) (Nf M ρ' σ') H H → (∀ j, j ∉ ws → σ'[j]? = σ[j]?) → Q σ' H
@[simp] def bName (i : Nat) (d : D) (ρ : VE) : Option VE := some (ρ.set i (.val d))
def forR (b : D → VE → Option VE) (g : VE → Res) : List D → VE → Res
  | [], ρ => .next ρ
  | d :: ds, ρ => match b d ρ with
    | none => .fail
    | some ρ1 => match g ρ1 with
      | .next ρ2 => forR b g ds ρ2
      | .cont ρ2 => forR b g ds ρ2
      | .brk ρ2 => .next ρ2
      | r => r
@[simp] def forO (f : VE → Option (List D)) (b : D → VE → Option VE) (g : VE → Res) : VE → Res := fun ρ => match f ρ with
  | some ds => forR b g ds ρ
  | none => .fail
section
variable {X : Cx} {K : PySem.W.Frag} {M : Fb} {H0 : Hp} {pos : Pos} {e tg iter : Expr} {f : VE → Option (List D)} {b : D → VE → Option VE} {g : VE → Res} {body : List Stmt}
theorem vg_name {i : Nat} {x : Str} (hN : X.N.Nodup) (hi : X.N[i]? = some x) (hx : Loc X.env.scope x) (hf : X.fn x = true ∨ X.env.scope.names.lookup x = some .local := by first | exact .inl rfl | exact .inr rfl | assumption) : PG X (.Name x pos) (tG K M H0 [i] (bName i)) := by
  intro pins s σ H v u Q I r ⟨ρ, d, ρ', R, hd, e, q⟩
  cases e
  obtain ⟨R1, S1⟩ := R.setV (i := i) (Same.refl H) hd
  exact pg_name hN hi hx hf pins s σ H v u Q I r (q _ R1 S1 fun j hj => by rw [List.getElem?_set_ne (fun e => hj (by rw [e]; simp))])
theorem j_vg_name {i : Nat} {x : Str} (hN : X.N.Nodup) (hi : X.N[i]? = some x) (hx : Loc X.env.scope x) (hf : X.fn x = true ∨ X.env.scope.names.lookup x = some .local := by first | exact .inl rfl | exact .inr rfl | assumption) : JG X (.Name x pos) (tG K M H0 [i] (bName i)) := ⟨vg_name hN hi hx hf⟩
theorem tFor_D {ws : List Nat} {D' : Ends} {σ : St} {H : Hp} {wi : TI} {tg' : TG} {tb : TS} (hi : ∀ σ H R, tI K M H0 f σ H R → wi σ H R) (hg : ∀ v σ H Q, tG K M H0 ws b v σ H Q → tg' v σ H Q) (hb : ∀ D σ H, tS K M H0 g D σ H → tb D σ H)
    (h : tS K M H0 (forO f b g) D' σ H) : tFor wi tg' tb D' σ H := by
  obtain ⟨ρ, R, q⟩ := h
  try dsimp only at q
  unfold forO at q
  cases hf : f ρ with
  | none => rw [hf] at q; exact False.elim q
  | some ds =>
    rw [hf] at q
    refine hi _ _ _ ⟨ρ, ds, R, hf, fun J H1 s1 ok => ?_⟩
    -- at turn i: the slots ρi from which the rest of the items gives what is wanted
    refine ⟨fun i m σi Hi => m = ds.length - i ∧ i ≤ ds.length ∧ ∃ ρi, Rel K M H0 ρi σi Hi ∧ Step M (Nf M ρ σ) (Nf M ρi σi) H1 Hi ∧ resOk K M H0 ρi σi Hi D' (forR b g (ds.drop i) ρi), ⟨ds.length, by simp, Nat.zero_le _, ρ, R.st s1, Step.refl, ?_⟩, ?_⟩
    · exact resOk.from (Step.of_same s1) q
    · rintro i m σi Hi ⟨rfl, hle, ρi, Ri, Si, qi⟩
      obtain ⟨ok1, ok2⟩ := ok _ _ Si i
      by_cases hlt : i < ds.length
      · obtain ⟨go, y⟩ := ok1 ds[i] (List.getElem?_eq_getElem hlt)
        rw [List.drop_eq_getElem_cons hlt] at qi
        simp only [forR] at qi
        refine .inr ⟨go, fun σ' H' => i + 1 ≤ ds.length ∧ ∃ ρi, Rel K M H0 ρi σ' H' ∧ Step M (Nf M ρ σ) (Nf M ρi σ') H1 H' ∧ resOk K M H0 ρi σ' H' D' (forR b g (ds.drop (i + 1)) ρi), fun σ' H' z => ⟨ds.length - (i + 1), by omega, rfl, z⟩, fun x H' yl => ?_⟩
        obtain ⟨s3, hd⟩ := y x H' yl
        cases hbd : b ds[i] ρi with
        | none => rw [hbd] at qi; exact False.elim qi
        | some ρ1 =>
          rw [hbd] at qi
          simp only at qi
          refine hg _ _ _ _ ⟨ρi, ds[i], ρ1, Ri.st s3, hd, hbd, fun σ1 R1 S1 _ => hb _ _ _ ⟨ρ1, R1, ?_⟩⟩
          have S01 : Step M (Nf M ρi σi) (Nf M ρ1 σ1) Hi H' := (Step.of_same s3).trans S1
          cases hgr : g ρ1 with
          | fail => rw [hgr] at qi; exact qi
          | next ρ2 => rw [hgr] at qi; exact fun σ2 H2 R2 S2 => ⟨hlt, ρ2, R2, Si.trans (S01.trans S2), resOk.from (S01.trans S2) qi⟩
          | cont ρ2 => rw [hgr] at qi; exact fun σ2 H2 R2 S2 => ⟨hlt, ρ2, R2, Si.trans (S01.trans S2), resOk.from (S01.trans S2) qi⟩
          | brk ρ2 => rw [hgr] at qi; exact fun σ2 H2 R2 S2 => qi σ2 H2 R2 (S01.trans S2)
          | ret r => rw [hgr] at qi; exact qi
      · have e : i = ds.length := by omega
        rw [List.drop_eq_nil_of_le (by omega)] at qi
        exact .inl ⟨ok2 e, qi σi Hi Ri Step.refl⟩
theorem vs_for {ws : List Nat} (hp : PassesOwn (model X.prog X.w) X.A X.env X.xe) (hc : X.calm = true) (hi : PI X tg iter (tI K M H0 f)) (hg : PG X tg (tG K M H0 ws b)) (hb : PSs X body (tS K M H0 g))
    (hs : ∀ x, foldedSetIterable iter X.env x = pure x := by intro _; rfl) : PS X (.For tg iter body [] pos) (tS K M H0 (forO f b g)) :=
  (ps_for hp hc hi hg hb hs).mono fun _ _ _ q => tFor_D (fun _ _ _ z => z) (fun _ _ _ _ z => z) (fun _ _ _ z => z) q
theorem j_vs_for {ws : List Nat} (hp : PassesOwn (model X.prog X.w) X.A X.env X.xe) (hc : X.calm = true) (hi : JI X tg iter (tI K M H0 f)) (hg : JG X tg (tG K M H0 ws b)) (hb : JB X body (tS K M H0 g)) (hs : ∀ x, foldedSetIterable iter X.env x = pure x := by intro _; rfl) : JS X (.For tg iter body [] pos) (tS K M H0 (forO f b g)) := ⟨vs_for hp hc hi.h hg.h hb.h hs⟩
theorem PI.mono {wi wi' : TI} (h : PI X tg iter wi) (m : ∀ σ H R, wi' σ H R → wi σ H R) : PI X tg iter wi' := fun pins s σ H R I q => h pins s σ H R I (m σ H R q)
def DenQ (K : PySem.W.Frag) (M N : Fb) (H : Hp) (d : D) (v : V) : Prop := match d with
  | .lst xs => ∃ a vs, v = .ref a ∧ (((¬ N a ∨ M a) ∧ Rd H a (.lst vs)) ∨ KL K a vs) ∧ DenL K N H xs vs
  | .lst xs true => ∃ a vs, v = .ref a ∧ (¬ N a ∨ M a) ∧ Rd H a (.dct (ktsOf xs) vs) ∧ DenL K N H xs vs
  | d => Den K N H d v
def tQ (K : PySem.W.Frag) (M : Fb) (H0 : Hp) (f : VE → Option D) : TE := fun σ H Q => ∃ ρ d, Rel K M H0 ρ σ H ∧ f ρ = some d ∧ ∀ v H', Same H H' → DenQ K M (Nf M ρ σ) H' d v → Q v H'
theorem Den.q {M N : Fb} {H : Hp} {d : D} {v : V} (h : Den K N H d v) : DenQ K M N H d v := by
  cases d with
  | lst xs fl =>
    simp only [Den] at h
    obtain ⟨a, vs, e, q, r⟩ := h
    cases fl with
    | false =>
      refine ⟨a, vs, e, ?_, r⟩
      rcases q with ⟨n, q⟩ | ⟨ws, z, q⟩
      · exact .inl ⟨.inl n, q⟩
      · cases z; exact .inr q
    | true =>
      rcases q with ⟨n, q⟩ | ⟨ws, z, _⟩
      · exact ⟨a, vs, e, .inl n, q, r⟩
      · cases z
  | _ => exact h
theorem PE.q {f : VE → Option D} (h : PE X e (tD K M H0 f)) : PE X e (tQ K M H0 f) := h.mono fun σ H Q ⟨ρ, d, R, e, q⟩ => ⟨ρ, d, R, e, fun v H' s z => q v H' s z.q⟩
theorem j_q {f : VE → Option D} (h : JE X e (tD K M H0 f)) : JE X e (tQ K M H0 f) := ⟨PE.q h.h⟩
theorem denQ_co {M N : Fb} {H : Hp} {xs : List D} {vs : List V} {fl : Bool} {a : Addr} (m : M a) (h : Rd H a (CO fl xs vs)) (r : DenL K N H xs vs) : DenQ K M N H (.lst xs fl) (.ref a) := by
  cases fl with
  | false => exact ⟨a, vs, rfl, .inl ⟨.inr m, h⟩, r⟩
  | true => exact ⟨a, vs, rfl, .inr m, h, r⟩
@[simp] def rdQ (ρ : VE) (i : Nat) : Option D := match ρ[i]? with
  | some (.val d) => some d
  | some (.lent xs b) => some (.lst xs b)
  | _ => none
theorem vq_var {i : Nat} {x : Str} (hN : X.N[i]? = some x) (hv : Vis X.env.scope x) (hd : (x == ("__debug__" : Str)) = false := by decide) (hcd : (x == ("__classdict__" : Str)) = false := by decide) : PE X (.Name x pos) (tQ K M H0 fun ρ => rdQ ρ i) :=
  (pe_var hN hv hd hcd).mono fun σ H Q ⟨ρ, d, R, e, q⟩ => by
    try dsimp only at e q
    unfold rdQ at e
    split at e
    · next h => cases e; obtain ⟨v, e1, h⟩ := R.slot i _ h; exact ⟨v, join_some e1, q v H (Same.refl H) h.q⟩
    · next h => cases e; obtain ⟨a, vs, e1, h2, h3, h4⟩ := R.slot i _ h; exact ⟨_, join_some e1, q _ H (Same.refl H) (denQ_co h2 h3 h4)⟩
    · cases e
def lstItems : D → Option (List D)
  | .lst xs => some xs
  | _ => none
def tupItems : D → Option (List D)
  | .tup xs => some xs
  | _ => none
def strItems : D → Option (List D)
  | .str x => some (x.cps.toList.map fun c => D.str ⟨#[c]⟩)
  | _ => none
theorem vi_list {l : Expr} {f : VE → Option D} (h : PE X l (tQ X.K M H0 f)) : PI X tg l (tI X.K M H0 fun ρ => (f ρ).bind lstItems) := (pi_list h).mono fun σ H R' ⟨ρ, ds, R, e, q⟩ => by
  try dsimp only at e q
  cases hf : f ρ with
  | none => rw [hf] at e; cases e
  | some d =>
    rw [hf] at e
    cases d with
    | lst xs fl =>
      cases fl with
      | true => cases e
      | false =>
      cases e
      refine ⟨ρ, .lst _, R, hf, fun v H1 s1 hv => ?_⟩
      obtain ⟨a, vs, e1, hr, hd⟩ := hv
      have sq : ∀ N2 H2, Step M (Nf M ρ σ) N2 H1 H2 → SqL X.K H2 a vs := fun N2 H2 S => by
        rcases hr with ⟨hn, hr⟩ | hr
        · exact .inl (hr.step S (by rcases hn with z | z; exact .inl z; exact .inr (.inl z)))
        · exact hr.sq
      refine ⟨a, e1, ⟨vs, sq _ _ Step.refl⟩, q _ H1 s1 fun N2 H2 S i => ?_⟩
      have hr2 := sq _ _ S
      have hd2 := DenL.step S _ _ hd
      refine ⟨fun d he => ?_, fun he => ⟨vs, hr2, by rw [he, hd.length]; exact Nat.le_refl _⟩⟩
      obtain ⟨w, hw, hdw⟩ := hd2.get he
      refine ⟨⟨vs, w, hr2, hw⟩, fun x H3 y => ?_⟩
      obtain ⟨e3, y⟩ := y
      subst e3
      have := y vs hr2
      rw [hw] at this; cases this
      exact ⟨Same.refl _, hdw⟩
    | _ => cases e
theorem vi_tup {l : Expr} {f : VE → Option D} (h : PE X l (tQ X.K M H0 f)) : PI X tg l (tI X.K M H0 fun ρ => (f ρ).bind tupItems) := (pi_tup h).mono fun σ H R' ⟨ρ, ds, R, e, q⟩ => by
  try dsimp only at e q
  cases hf : f ρ with
  | none => rw [hf] at e; cases e
  | some d =>
    rw [hf] at e
    cases d with
    | tup xs =>
      cases e
      refine ⟨ρ, .tup _, R, hf, fun v H1 s1 hv => ?_⟩
      simp only [DenQ, Den] at hv
      obtain ⟨a, vs, e1, hr, hd⟩ := hv
      refine ⟨a, e1, ⟨vs, hr⟩, q _ H1 s1 fun N2 H2 S i => ?_⟩
      have hr2 := hr.step S
      have hd2 := DenL.step S _ _ hd
      refine ⟨fun d he => ?_, fun he => ⟨vs, hr2, by rw [he, hd.length]; exact Nat.le_refl _⟩⟩
      obtain ⟨w, hw, hdw⟩ := hd2.get he
      refine ⟨⟨vs, w, hr2, hw⟩, fun x H3 y => ?_⟩
      obtain ⟨e3, y⟩ := y
      subst e3
      have := y vs hr2
      rw [hw] at this; cases this
      exact ⟨Same.refl _, hdw⟩
    | _ => cases e
theorem vi_str {l : Expr} {f : VE → Option D} (h : PE X l (tQ K M H0 f)) : PI X tg l (tI K M H0 fun ρ => (f ρ).bind strItems) := (pi_str h).mono fun σ H R' ⟨ρ, ds, R, e, q⟩ => by
  try dsimp only at e q
  cases hf : f ρ with
  | none => rw [hf] at e; cases e
  | some d =>
    rw [hf] at e
    cases d with
    | str x =>
      cases e
      refine ⟨ρ, .str x, R, hf, fun v H1 s1 hv => ?_⟩
      simp only [DenQ, Den] at hv
      refine ⟨x, hv, q _ H1 s1 fun N2 H2 S i => ⟨fun d he => ?_, fun he => ?_⟩⟩
      · rw [List.getElem?_map] at he
        cases hc : x.cps.toList[i]? with
        | none => rw [hc] at he; cases he
        | some c =>
          rw [hc] at he; cases he
          have hi : i < x.cps.size := by
            have := (List.getElem?_eq_some_iff.mp hc).1
            simpa using this
          refine ⟨hi, fun v H3 y => ?_⟩
          obtain ⟨e3, c', hc', y⟩ := y
          subst e3 y
          rw [← Array.getElem?_toList, hc] at hc'; cases hc'
          exact ⟨Same.refl _, by simp only [Den]⟩
      · have : i = x.cps.size := by simpa using he
        exact Nat.le_of_eq this.symm
    | _ => cases e
def rngItems (lo : Int) (n : Nat) : List D := (List.range n).map (fun (k : Nat) => D.int (lo + (k : Int)))
theorem rng_ok {M N : Fb} {H1 : Hp} {lo : Int} {n : Nat} : ItOk K M N H1 (Itr lo n) (rngItems lo n) := fun N2 H2 S i => by
  refine ⟨fun d he => ?_, fun he => ?_⟩
  · have hi : i < n := by
      have := (List.getElem?_eq_some_iff.mp he).1
      simpa [rngItems] using this
    have e : d = D.int (lo + i) := by
      simp only [rngItems, List.getElem?_map, List.getElem?_range hi, Option.map_some, Option.some.injEq] at he
      exact he.symm
    subst e
    refine ⟨hi, fun x H3 y => ?_⟩
    obtain ⟨e3, y⟩ := y
    subst e3 y
    exact ⟨Same.refl _, by simp only [Den]⟩
  · have : i = n := by simpa [rngItems] using he
    exact Nat.le_of_eq this.symm
noncomputable def gd {α : Type} (p : Prop) (o : Option α) : Option α := @ite _ p (Classical.propDecidable p) o none
theorem gd_pos {α : Type} {p : Prop} {o : Option α} (h : p) : gd p o = o := by unfold gd; exact @if_pos _ (Classical.propDecidable p) h _ _ _
theorem gd_inv {α : Type} {p : Prop} {o : Option α} {x : α} (h : gd p o = some x) : p ∧ o = some x := by
  by_cases hp : p
  · rw [gd_pos hp] at h; exact ⟨hp, h⟩
  · unfold gd at h
    rw [@if_neg _ (Classical.propDecidable p) hp] at h
    cases h
noncomputable def rng1 : List D → Option (List D)
  | [.int j] => gd (-1000000000 ≤ j ∧ j < 1000000000) (some (rngItems 0 j.toNat))
  | _ => none
theorem vi_range1 {a : Expr} {fa : VE → Option (List Sl)} {p : Pos} (hg : Gl X "range") (hm : X.mg "range" = none) (ha : PA X [a] (tA' K M H0 fa)) (hs : starEach [a] X.env = [(false, eval a X.env)] := by rfl) : PI X tg (.Call (.Name "range" p) [a] [] pos) (tI K M H0 fun ρ => ((fa ρ).bind vals).bind rng1) :=
  (pi_range1 hg hm ha hs).mono fun σ H R' ⟨ρ, ds, R, e, q⟩ => by
    try dsimp only at e q
    cases hf : fa ρ with
    | none => rw [hf] at e; cases e
    | some ss =>
      rw [hf] at e
      cases hv : vals ss with
      | none => simp only [Option.bind, hv] at e; cases e
      | some l =>
        simp only [Option.bind, hv] at e
        unfold rng1 at e
        split at e
        · next j =>
          obtain ⟨hz, e⟩ := gd_inv e
          cases e
          refine ⟨ρ, ss, R, hf, fun vs H1 s1 h1 => ?_⟩
          have hd := vals_den h1 hv
          simp only [DenL, Den] at hd
          obtain ⟨v, r, e1, e2, e3⟩ := hd
          subst e1 e2 e3
          exact ⟨j, rfl, by omega, by omega, q _ H1 s1 rng_ok⟩
        · cases e
theorem j_vi_range1 {a : Expr} {fa : VE → Option (List Sl)} {p : Pos} (hg : Gl X "range") (hm : X.mg "range" = none) (ha : JA X [a] (tA' K M H0 fa)) (hs : starEach [a] X.env = [(false, eval a X.env)] := by rfl) : JI X tg (.Call (.Name "range" p) [a] [] pos) (tI K M H0 fun ρ => ((fa ρ).bind vals).bind rng1) := ⟨vi_range1 hg hm ha.h hs⟩
end
end L2
set_option Elab.async false
set_option linter.all false
set_option maxRecDepth 100000
namespace L2
open PySem PySem.Spec PyProof.Rows
def tGs (K : PySem.W.Frag) (M : Fb) (H0 : Hp) (ws : List Nat) (b : List D → VE → Option VE) : TGs := fun vs σ H Q => ∃ ρ ds ρ', Rel K M H0 ρ σ H ∧ DenL K (Nf M ρ σ) H ds vs ∧ b ds ρ = some ρ' ∧ ∀ σ' , Rel K M H0 ρ' σ' H → Step M (Nf M ρ σ) (Nf M ρ' σ') H H → (∀ j, j ∉ ws → σ'[j]? = σ[j]?) → Q σ' H
@[simp] def bNil : List D → VE → Option VE
  | [], ρ => some ρ
  | _, _ => none
@[simp] def bCons (b : D → VE → Option VE) (c : List D → VE → Option VE) : List D → VE → Option VE
  | d :: r, ρ => (b d ρ).bind (c r)
  | _, _ => none
@[simp] def bTup (n : Nat) (b : List D → VE → Option VE) : D → VE → Option VE
  | .tup ds, ρ => if ds.length = n then b ds ρ else none
  | _, _ => none
section
variable {X : Cx} {K : PySem.W.Frag} {M : Fb} {H0 : Hp} {pos : Pos} {e tg iter : Expr} {es : List Expr} {ws ws' : List Nat} {b : D → VE → Option VE} {c : List D → VE → Option VE}
theorem vgs_nil : PGs X [] (tGs K M H0 [] bNil) := by
  intro pins s σ H vs us Q I r ⟨ρ, ds, ρ', R, hd, e, q⟩
  cases ds with
  | nil =>
    cases e
    simp only [DenL] at hd
    exact pgs_nil pins s σ H vs us Q I r ⟨hd, q σ R Step.refl fun _ _ => rfl⟩
  | cons => cases e
theorem j_vgs_nil  : JK X [] (tGs K M H0 [] bNil) := ⟨vgs_nil ⟩
theorem vgs_cons (h1 : PG X e (tG K M H0 ws b)) (h2 : PGs X es (tGs K M H0 ws' c)) (hs : (assignEach (e :: es) X.env).map (·.2) = assign e X.env :: (assignEach es X.env).map (·.2) := by rfl) : PGs X (e :: es) (tGs K M H0 (ws ++ ws') (bCons b c)) := by
  intro pins s σ H vs us Q I r ⟨ρ, ds, ρ', R, hd, e, q⟩
  cases ds with
  | nil => cases e
  | cons d ds =>
    simp only [DenL] at hd
    obtain ⟨v, vr, e1, hv, hr⟩ := hd
    subst e1
    simp only [bCons] at e
    cases hb : b d ρ with
    | none => rw [hb] at e; cases e
    | some ρ1 =>
      rw [hb] at e
      refine pgs_cons h1 h2 hs pins s σ H _ us Q I r ⟨v, vr, rfl, ρ, d, ρ1, R, hv, hb, fun σ1 R1 S1 w1 => ⟨ρ1, ds, ρ', R1, DenL.step S1 _ _ hr, e, fun σ2 R2 S2 w2 => q σ2 R2 (S1.trans S2) fun j hj => ?_⟩⟩
      rw [List.mem_append, not_or] at hj
      rw [w2 j hj.2, w1 j hj.1]
theorem j_vgs_cons (h1 : JG X e (tG K M H0 ws b)) (h2 : JK X es (tGs K M H0 ws' c)) (hs : (assignEach (e :: es) X.env).map (·.2) = assign e X.env :: (assignEach es X.env).map (·.2) := by rfl) : JK X (e :: es) (tGs K M H0 (ws ++ ws') (bCons b c)) := ⟨vgs_cons h1.h h2.h hs⟩
theorem vg_tup {k n : Nat} (hc : X.calm = true) (h : PGs X es (tGs X.K M H0 ws c))
    (hn : (assignEach es X.env).length = n := by rfl) (hst : (assignEach es X.env).findIdx? (·.1) = none := by rfl) : PG X (.Tuple es k pos) (tG X.K M H0 ws (bTup n c)) := by
  intro pins s σ H v u Q I r ⟨ρ, d, ρ', R, hd, e, q⟩
  cases d with
  | tup ds =>
    simp only [bTup] at e
    split at e
    · next hl =>
      simp only [Den] at hd
      obtain ⟨a, vs, e1, hq, hd⟩ := hd
      exact pg_tup hc h hn hst pins s σ H v u Q I r ⟨a, vs, e1, hq, by rw [← hd.length]; exact hl, ρ, ds, ρ', R, hd, e, q⟩
    · cases e
  | _ => cases e
theorem j_vg_tup {k n : Nat} (hc : X.calm = true) (h : JK X es (tGs X.K M H0 ws c)) (hn : (assignEach es X.env).length = n := by rfl) (hst : (assignEach es X.env).findIdx? (·.1) = none := by rfl) : JG X (.Tuple es k pos) (tG X.K M H0 ws (bTup n c)) := ⟨vg_tup hc h.h hn hst⟩
end
@[simp] def lend : Option Sl → Sl
  | some (.val d) => .val d
  | some (.own xs b) => .lent xs b
  | some (.lent xs b) => .lent xs b
  | _ => .no
@[simp] def compIn (k : Nat) (oix : List Nat) (ρ : VE) : VE := List.replicate k .no ++ oix.map fun j => lend ρ[j]?
def compL (b : D → VE → Option VE) (t : VE → Option Bool) (e : VE → Option D) (ρ : VE) : List D → Option (List D)
  | [] => some []
  | d :: ds => match b d ρ with
    | none => none
    | some ρ1 => match t ρ1 with
      | some true => consO (e ρ1) (compL b t e ρ ds)
      | some false => compL b t e ρ ds
      | none => none
@[simp] def compF (k : Nat) (oix : List Nat) (f : VE → Option (List D)) (b : D → VE → Option VE) (t : VE → Option Bool) (e : VE → Option D) : VE → Option (List D) := fun ρ => (shortO (f ρ)).bind (compL b t e (compIn k oix ρ))
section
variable {X : Cx} {K : PySem.W.Frag} {M : Fb} {H0 : Hp} {pos : Pos} {tg elt iter : Expr} {ifs : List Expr} {scope : Scope} {ws : List Nat} {f : VE → Option (List D)} {b : D → VE → Option VE} {t : VE → Option Bool} {e : VE → Option D} {k : Nat} {oix : List Nat}
theorem Rel.comp {ρ : VE} {σ : St} {H : Hp} (R : Rel K M H0 ρ σ H) (k : Nat) (oix : List Nat) : Rel K (Nf M ρ σ) H (compIn k oix ρ) (startC k oix σ) H ∧ ∀ a, Nf (Nf M ρ σ) (compIn k oix ρ) (startC k oix σ) a → Nf M ρ σ a := by
  have noown : ∀ (j : Nat) (xs : List D) (fl : Bool), (compIn k oix ρ)[j]? ≠ some (Sl.own xs fl) := fun j xs fl h => by
    unfold compIn at h
    rw [List.getElem?_append] at h
    split at h
    · rw [List.getElem?_replicate] at h
      split at h <;> cases h
    · rw [List.getElem?_map] at h
      cases ho : oix[j - (List.replicate k Sl.no).length]? with
      | none => rw [ho] at h; cases h
      | some o =>
        rw [ho] at h
        simp only [Option.map_some, Option.some.injEq] at h
        unfold lend at h
        split at h <;> cases h
  have nf : ∀ a, Nf (Nf M ρ σ) (compIn k oix ρ) (startC k oix σ) a → Nf M ρ σ a := fun a h => by
    rcases h with h | ⟨j, xs, fl, h, _⟩
    · exact h
    · exact absurd h (noown j xs fl)
  refine ⟨⟨by simp [compIn, startC], Same.refl H, R.nh, fun j s h => ?_, fun i j xs ys fl fl' a h => absurd h (noown i xs fl)⟩, nf⟩
  unfold compIn at h
  rw [List.getElem?_append] at h
  split at h
  · rw [List.getElem?_replicate] at h
    split at h
    · cases h; trivial
    · cases h
  · next hge =>
    rw [List.getElem?_map] at h
    have hσ : (startC k oix σ)[j]? = (oix[j - k]?).map fun i => (σ[i]?).join := by
      unfold startC
      rw [List.getElem?_append_right (by simpa using hge), List.getElem?_map]
      simp
    rw [hσ]
    simp only [List.length_replicate] at h
    cases ho : oix[j - k]? with
    | none => rw [ho] at h; cases h
    | some o =>
      rw [ho] at h
      simp only [Option.map_some, Option.some.injEq] at h
      simp only [Option.map_some, Option.join_some]
      unfold lend at h
      split at h
      · next d hd => subst h; obtain ⟨v, e1, q⟩ := R.slot o _ hd; exact ⟨v, e1, q.nw fun a ha => .inl (nf a ha)⟩
      · next xs fl hd =>
        subst h
        obtain ⟨a, vs, e1, z1, z2, z3, z4⟩ := R.slot o _ hd
        exact ⟨a, vs, e1, .inr ⟨o, xs, fl, hd, join_some e1⟩, .inl z3, z4.nw fun a ha => .inl (nf a ha)⟩
      · next xs hd =>
        subst h
        obtain ⟨a, vs, e1, z1, z2, z3⟩ := R.slot o _ hd
        exact ⟨a, vs, e1, .inl z1, z2, z3.nw fun a ha => .inl (nf a ha)⟩
      · subst h; trivial
def gAll (K : PySem.W.Frag) (ws : List Nat) (b : D → VE → Option VE) : TG := fun v σ H Q => ∃ M H0, tG K M H0 ws b v σ H Q
def tAll (K : PySem.W.Frag) (t : VE → Option Bool) : TT := fun σ H Q => ∃ M H0, tB' K M H0 t σ H Q
def eAll (K : PySem.W.Frag) (e : VE → Option D) : TE := fun σ H Q => ∃ M H0, tD K M H0 e σ H Q
theorem tComp_D (hw : ∀ j ∈ ws, j < k) {wi : TI} (hi : ∀ σ H R, tI K M H0 f σ H R → wi σ H R) {σ : St} {H : Hp} {Q : VK} (h : tF K M H0 (compF k oix f b t e) σ H Q) : tComp k oix wi (gAll K ws b) (tAll K t) (eAll K e) σ H Q := by
  obtain ⟨ρ, xs, R, ex, q⟩ := h
  try dsimp only at ex q
  unfold compF at ex
  cases hf : shortO (f ρ) with
  | none => rw [hf] at ex; cases ex
  | some ds =>
    rw [hf] at ex
    obtain ⟨hf, hz⟩ := shortO_inv hf
    have ex : compL b t e (compIn k oix ρ) ds = some xs := ex
    refine hi _ _ _ ⟨ρ, ds, R, hf, fun J H1 s1 ok => ?_⟩
    refine ⟨ds.length, fun i ys H2 => i ≤ ds.length ∧ ys.length ≤ i ∧ Same H1 H2 ∧ ∃ acc rest, DenL K (Nf M ρ σ) H2 acc ys ∧ compL b t e (compIn k oix ρ) (ds.drop i) = some rest ∧ acc ++ rest = xs, ⟨Nat.zero_le _, Nat.le_refl _, Same.refl _, [], xs, DenL.nil, ex, rfl⟩, ?_⟩
    rintro i ys H2 ⟨hle, hy, s2, acc, rest, hacc, hc, hx⟩
    obtain ⟨ok1, ok2⟩ := ok _ H2 (Step.of_same s2) i
    by_cases hlt : i < ds.length
    · obtain ⟨go, y⟩ := ok1 ds[i] (List.getElem?_eq_getElem hlt)
      rw [List.drop_eq_getElem_cons hlt] at hc
      simp only [compL] at hc
      refine .inr ⟨go, hlt, by omega, fun ys' H' => ys'.length ≤ i + 1 ∧ Same H1 H' ∧ ∃ acc rest, DenL K (Nf M ρ σ) H' acc ys' ∧ compL b t e (compIn k oix ρ) (ds.drop (i + 1)) = some rest ∧ acc ++ rest = xs, fun ys' H' z => ⟨hlt, z⟩, fun x H3 yl => ?_⟩
      obtain ⟨s3, hd⟩ := y x H3 yl
      have R3 := ((R.st s1).st s2).st s3
      obtain ⟨Rc, nf⟩ := R3.comp k oix
      cases hb : b ds[i] (compIn k oix ρ) with
      | none => rw [hb] at hc; cases hc
      | some ρ1 =>
        rw [hb] at hc
        simp only at hc
        refine ⟨Nf M ρ σ, H3, compIn k oix ρ, ds[i], ρ1, Rc, hd.nw fun a ha => .inl (nf a ha), hb, fun σ4 R4 S4 w4 => ⟨?_, ?_⟩⟩
        · apply List.ext_getElem?
          intro j
          rw [List.getElem?_drop, List.getElem?_drop]
          exact w4 _ fun hj => absurd (hw _ hj) (by omega)
        · cases ht : t ρ1 with
          | none => rw [ht] at hc; cases hc
          | some bb =>
            rw [ht] at hc
            refine ⟨Nf M ρ σ, H3, ρ1, bb, R4, ht, fun H5 s5 => ?_⟩
            cases bb with
            | true =>
              simp only at hc
              obtain ⟨yd, rest', e1, e2, e3⟩ := consO_inv hc
              refine ite_t ?_
              refine ⟨Nf M ρ σ, H3, ρ1, yd, R4.st s5, e1, fun v H6 s6 hv => ⟨?_, ((s2.trans s3).trans s5).trans s6, acc ++ [yd], rest', (hacc.same ((s3.trans s5).trans s6)).append (DenL.cons (hv.nw fun a ha => .inl (.inl ha)) DenL.nil), e2, ?_⟩⟩
              · simp only [List.length_append, List.length_singleton]; omega
              · subst e3; rw [← hx]; simp
            | false =>
              refine ite_f ?_
              exact ⟨by omega, (s2.trans s3).trans s5, acc, rest, hacc.same (s3.trans s5), hc, hx⟩
    · have ei : i = ds.length := by omega
      rw [List.drop_eq_nil_of_le (by omega)] at hc
      cases hc
      rw [List.append_nil] at hx
      subst hx
      exact .inl ⟨ok2 ei, by omega, fun p hp => tF_new (s1.trans s2) hp hacc q⟩
theorem PG.all {Y : Cx} (h : ∀ M H0, PG Y tg (tG K M H0 ws b)) : PG Y tg (gAll K ws b) := fun pins s σ H v u Q I r ⟨M, H0, z⟩ => h M H0 pins s σ H v u Q I r z
theorem PFs.all {Y : Cx} (h : ∀ M H0, PFs Y ifs (tB' K M H0 t)) : PFs Y ifs (tAll K t) := fun pins s σ H Q I ⟨M, H0, z⟩ => h M H0 pins s σ H Q I z
theorem PE.all {Y : Cx} (h : ∀ M H0, PE Y elt (tD K M H0 e)) : PE Y elt (eAll K e) := fun pins s σ H Q I ⟨M, H0, z⟩ => h M H0 pins s σ H Q I z
theorem vf_nil {Y : Cx} : PFs Y [] (tB' K M H0 fun _ => some true) := fun pins s σ H Q I ⟨ρ, b, R, e, q⟩ => pf_nil pins s σ H Q I (by cases e; exact q H (Same.refl H))
theorem j_vf_nil {Y : Cx} : JF Y [] (tB' K M H0 fun _ => some true) := ⟨vf_nil ⟩
theorem vf_comp (own outs : List Str) (oix : List Nat) (S : CompSc own outs scope X.env.scope) (hox : oix.map (fun j => X.N[j]?) = outs.map some) (hc : X.calm = true) (hi : PI X tg iter (tI K M H0 f))
    (hg : ∀ C s2 H2 fp pins M' H', PG (cxC X own outs scope C s2 H2 fp pins) tg (tG K M' H' ws b))
    (ht : ∀ C s2 H2 fp pins M' H', PFs (cxC X own outs scope C s2 H2 fp pins) ifs (tB' K M' H' t))
    (he : ∀ C s2 H2 fp pins M' H', PE (cxC X own outs scope C s2 H2 fp pins) elt (tD K M' H' e)) (hw : ∀ j ∈ ws, j < own.length)
    (hs : ∀ x, foldedSetIterable iter X.env x = pure x := by intro _; rfl) :
    PE X (.ListComp elt [⟨tg, iter, ifs, 0⟩] scope pos) (tF K M H0 (compF own.length oix f b t e)) :=
  (pe_comp own outs oix S hox hc hi (fun C s2 H2 fp pins => PG.all (hg C s2 H2 fp pins)) (fun C s2 H2 fp pins => PFs.all (ht C s2 H2 fp pins)) (fun C s2 H2 fp pins => PE.all (he C s2 H2 fp pins)) hs).mono
    fun _ _ _ z => tComp_D hw (fun _ _ _ z => z) z
theorem j_vf_comp (own outs : List Str) (oix : List Nat) (S : CompSc own outs scope X.env.scope) (hox : oix.map (fun j => X.N[j]?) = outs.map some) (hc : X.calm = true) (hi : JI X tg iter (tI K M H0 f)) (hg : ∀ C s2 H2 fp pins M' H', JG (cxC X own outs scope C s2 H2 fp pins) tg (tG K M' H' ws b)) (ht : ∀ C s2 H2 fp pins M' H', JF (cxC X own outs scope C s2 H2 fp pins) ifs (tB' K M' H' t)) (he : ∀ C s2 H2 fp pins M' H', JE (cxC X own outs scope C s2 H2 fp pins) elt (tD K M' H' e)) (hw : ∀ j ∈ ws, j < own.length) (hs : ∀ x, foldedSetIterable iter X.env x = pure x := by intro _; rfl) : JE X (.ListComp elt [⟨tg, iter, ifs, 0⟩] scope pos) (tF K M H0 (compF own.length oix f b t e)) := ⟨vf_comp own outs oix S hox hc hi.h (fun C s2 H2 fp pins M' H' => (hg C s2 H2 fp pins M' H').h) (fun C s2 H2 fp pins M' H' => (ht C s2 H2 fp pins M' H').h) (fun C s2 H2 fp pins M' H' => (he C s2 H2 fp pins M' H').h) hw hs⟩
theorem vs_setComp (own outs : List Str) (oix : List Nat) {i : Nat} {x : Str} {pos' spos : Pos} (S : CompSc own outs scope X.env.scope) (hox : oix.map (fun j => X.N[j]?) = outs.map some) (hc : X.calm = true)
    (hN : X.N.Nodup) (hix : X.N[i]? = some x) (hx : X.env.scope.names.lookup x = some .local) (hi : PI X tg iter (tI K M H0 f))
    (hg : ∀ C s2 H2 fp pins M' H', PG (cxC X own outs scope C s2 H2 fp pins) tg (tG K M' H' ws b))
    (ht : ∀ C s2 H2 fp pins M' H', PFs (cxC X own outs scope C s2 H2 fp pins) ifs (tB' K M' H' t))
    (he : ∀ C s2 H2 fp pins M' H', PE (cxC X own outs scope C s2 H2 fp pins) elt (tD K M' H' e)) (hw : ∀ j ∈ ws, j < own.length)
    (hsw : swapsWith (.ListComp elt [⟨tg, iter, ifs, 0⟩] scope pos) (some (.Name x pos')) spos.line X.env = pure true := by rfl)
    (hs : ∀ x, foldedSetIterable iter X.env x = pure x := by intro _; rfl) :
    PS X (.Assign [.Name x pos'] (.ListComp elt [⟨tg, iter, ifs, 0⟩] scope pos) spos) (tS K M H0 fun ρ => setRF i (compF own.length oix f b t e ρ) ρ) :=
  (ps_setComp own outs oix S hox hc hN hix hx hi (fun C s2 H2 fp pins => PG.all (hg C s2 H2 fp pins)) (fun C s2 H2 fp pins => PFs.all (ht C s2 H2 fp pins)) (fun C s2 H2 fp pins => PE.all (he C s2 H2 fp pins)) hsw hs).mono
    fun D' σ H z => by
      have z' := tAsg_F z
      exact tComp_D hw (fun _ _ _ z => z) z'
theorem j_vs_setComp (own outs : List Str) (oix : List Nat) {i : Nat} {x : Str} {pos' spos : Pos} (S : CompSc own outs scope X.env.scope) (hox : oix.map (fun j => X.N[j]?) = outs.map some) (hc : X.calm = true) (hN : X.N.Nodup) (hix : X.N[i]? = some x) (hx : X.env.scope.names.lookup x = some .local) (hi : JI X tg iter (tI K M H0 f)) (hg : ∀ C s2 H2 fp pins M' H', JG (cxC X own outs scope C s2 H2 fp pins) tg (tG K M' H' ws b)) (ht : ∀ C s2 H2 fp pins M' H', JF (cxC X own outs scope C s2 H2 fp pins) ifs (tB' K M' H' t)) (he : ∀ C s2 H2 fp pins M' H', JE (cxC X own outs scope C s2 H2 fp pins) elt (tD K M' H' e)) (hw : ∀ j ∈ ws, j < own.length) (hsw : swapsWith (.ListComp elt [⟨tg, iter, ifs, 0⟩] scope pos) (some (.Name x pos')) spos.line X.env = pure true := by rfl) (hs : ∀ x, foldedSetIterable iter X.env x = pure x := by intro _; rfl) : JS X (.Assign [.Name x pos'] (.ListComp elt [⟨tg, iter, ifs, 0⟩] scope pos) spos) (tS K M H0 fun ρ => setRF i (compF own.length oix f b t e ρ) ρ) := ⟨vs_setComp own outs oix S hox hc hN hix hx hi.h (fun C s2 H2 fp pins M' H' => (hg C s2 H2 fp pins M' H').h) (fun C s2 H2 fp pins M' H' => (ht C s2 H2 fp pins M' H').h) (fun C s2 H2 fp pins M' H' => (he C s2 H2 fp pins M' H').h) hw hsw hs⟩
end
def fnP (np n : Nat) (g : VE → Res) : List Sl → Option Rv := fun ss => if ss.length = np then
    match g (ss ++ List.replicate (n - np) .no) with
    | .ret r => some r
    | .next _ => some (.val .non)
    | _ => none
  else none
theorem start_rel {K : PySem.W.Frag} {N : Fb} {H : Hp} {ss : List Sl} {vs : List V} (nh : ∀ a, N a → H a ≠ none) (h : ArgsOk K N H ss vs) (n : Nat) : Rel K N H (ss ++ List.replicate n .no) (vs.map some ++ List.replicate n none) H := by
  have hl := h.length
  have noown : ∀ (j : Nat) (xs : List D) (fl : Bool), (ss ++ List.replicate n Sl.no)[j]? ≠ some (Sl.own xs fl) := fun j xs fl e => by
    rw [List.getElem?_append] at e
    split at e
    · obtain ⟨v, _, q⟩ := h.get e; exact q
    · rw [List.getElem?_replicate] at e
      split at e <;> cases e
  have nf : ∀ a, Nf N (ss ++ List.replicate n Sl.no) (vs.map some ++ List.replicate n none) a → N a := fun a z => by
    rcases z with z | ⟨j, xs, fl, z, _⟩
    · exact z
    · exact absurd z (noown j xs fl)
  refine ⟨by simp [hl], Same.refl H, nh, fun j s e => ?_, fun i j xs ys fl fl' a z => absurd z (noown i xs fl)⟩
  rw [List.getElem?_append] at e
  split at e
  · next hj =>
    obtain ⟨v, ev, q⟩ := h.get e
    rw [List.getElem?_append_left (by simpa [← hl] using hj), List.getElem?_map, ev]
    cases s with
    | val d => exact ⟨v, rfl, Den.nw q fun a ha => .inl (nf a ha)⟩
    | lent xs fl => obtain ⟨a, us, e1, z1, z2, z3⟩ := q; exact ⟨a, us, by rw [e1]; rfl, z1, z2, z3.nw fun a ha => .inl (nf a ha)⟩
    | no => trivial
    | own xs fl => exact False.elim q
    | exc c => exact False.elim q
  · rw [List.getElem?_replicate] at e
    split at e
    · cases e; trivial
    · cases e
theorem fn_ok {P : Program} {w : World} {K : PySem.W.Frag} {mg : Str → Option Value} {base : Heap} {x qual : Str} {st : Stmt} {f : Addr} {fd : FuncData} {N ps : List Str} {k : Nat} {g : VE → Res} (F : Fun K x qual st f fd) (S : FnScope N ps (defScope st)) (hnp : ps.length ≤ N.length)
    (hb : ∀ (cdv : Value) (A : Around) (outer : List Env) (s : Shared) (H : Hp) (E : XK) (M : Fb) (H0 : Hp), Room k (A.deeper (envOfC qual (defScope st) s.heap.objs.size f cdv)) →
      PSs (cxOf CX0 P w K mg base N qual (defScope st) f cdv A outer s H E).nox (defBody st) (tS K M H0 g)) : FnOk P w K mg base CX0 (k + 1) f fd ps (spD K (fnP ps.length N.length g)) := by
  refine F.ok S (fun vs H Q E h => ?_) (fun cdv A outer s H vs Q E hr h => ?_)
  · obtain ⟨N', ss, r, nh, ha, hF, q⟩ := h
    unfold fnP at hF
    split at hF
    · next hl => rw [← ha.length]; exact hl
    · cases hF
  · obtain ⟨N', ss, r, nh, ha, hF, q⟩ := h
    refine ⟨_, hb cdv A outer s H E N' H hr, ?_⟩
    unfold fnP at hF
    split at hF
    · next hl =>
      have hs : start N vs = vs.map some ++ List.replicate (N.length - ps.length) none := by unfold start; rw [← ha.length, hl]
      rw [hs]
      refine ⟨_, start_rel nh ha (N.length - ps.length), ?_⟩
      cases hg : g (ss ++ List.replicate (N.length - ps.length) .no) with
      | fail => rw [hg] at hF; cases hF
      | next ρ' => rw [hg] at hF; cases hF; exact fun σ' H' R' S' => q .non H' R'.same (by simp only [RvOk, Den])
      | brk ρ' => rw [hg] at hF; cases hF
      | cont ρ' => rw [hg] at hF; cases hF
      | ret r' => rw [hg] at hF; cases hF; exact fun v H' s hv => q v H' s hv
    · cases hF
theorem fn_okJ {P : Program} {w : World} {K : PySem.W.Frag} {mg : Str → Option Value} {base : Heap} {x qual : Str} {st : Stmt} {f : Addr} {fd : FuncData} {N ps : List Str} {k : Nat} {g : VE → Res} (F : Fun K x qual st f fd) (S : FnScope N ps (defScope st)) (hnp : ps.length ≤ N.length)
    (hb : ∀ (cdv : Value) (A : Around) (outer : List Env) (s : Shared) (H : Hp) (E : XK) (M : Fb) (H0 : Hp), Room k (A.deeper (envOfC qual (defScope st) s.heap.objs.size f cdv)) →
      JB (cxOf CX0 P w K mg base N qual (defScope st) f cdv A outer s H E).nox (defBody st) (tS K M H0 g)) : FnOk P w K mg base CX0 (k + 1) f fd ps (spD K (fnP ps.length N.length g)) :=
  fn_ok F S hnp fun cdv A outer s H E M H0 hr => (hb cdv A outer s H E M H0 hr).h
theorem law_ok {P : Program} {w : World} {K : PySem.W.Frag} {mg : Str → Option Value} {base : Heap} {k : Nat} {f : Addr} {fd : FuncData} {F : List Sl → Option Rv} (G : FnOk P w K mg base CX0 k f fd ["_law_script"] (spD K F))
    (h : ∀ ns : List Int, ns.length ≤ 63 → F [.val (.lst (ns.map D.int))] = some (.val (.bl true))) : FnOk P w K mg base CX0 k f fd ["_law_script"] (spLaw K) :=
  G.imp fun vs H Q E ⟨a, ns, e, hs, hl, q⟩ => by
    refine ⟨fun _ => False, [.val (.lst (ns.map D.int))], .val (.bl true), fun _ z => z.elim, ⟨_, [], e, ?_, rfl⟩, h ns hl, fun v H' s hv => ?_⟩
    · simp only [ArgOk, Den]
      exact ⟨a, _, rfl, .of_sq hs, DenL.ints ns⟩
    · simp only [RvOk, Den] at hv
      subst hv; exact q H'
end L2
set_option Elab.async false
set_option linter.all false
set_option maxRecDepth 100000
namespace L2
open PySem PySem.Spec PyProof.Rows
section
variable {K : PySem.W.Frag}
@[simp] def i2 (g : Int → Int → Option D) : D → D → Option D
  | .int i, .int j => g i j
  | _, _ => none
theorem i2_inv {g : Int → Int → Option D} {x y d : D} (h : i2 g x y = some d) : ∃ i j, x = .int i ∧ y = .int j ∧ g i j = some d := by
  unfold i2 at h
  split at h
  · exact ⟨_, _, rfl, rfl, h⟩
  · cases h
theorem DenP.int {N : Fb} {H : Hp} {i : Int} {v : V} (h : DenP K N H (.int i) v) : v = .int i := by simpa only [DenP, Den] using h
theorem DenP.str {N : Fb} {H : Hp} {i : Str} {v : V} (h : DenP K N H (.str i) v) : v = .str i := by simpa only [DenP, Den] using h
theorem DenP.bl {N : Fb} {H : Hp} {i : Bool} {v : V} (h : DenP K N H (.bl i) v) : v = .bl i := by simpa only [DenP, Den] using h
theorem DenP.non {N : Fb} {H : Hp} {v : V} (h : DenP K N H .non v) : v = .non := by simpa only [DenP, Den] using h
theorem DenP.ty {N : Fb} {H : Hp} {i : String} {v : V} (h : DenP K N H (.ty i) v) : v = .ty i := by simpa only [DenP, Den] using h
theorem DenP.tup {N : Fb} {H : Hp} {xs : List D} {v : V} (h : DenP K N H (.tup xs) v) : ∃ a vs, v = .ref a ∧ SqT K H a vs ∧ DenL K N H xs vs := by simpa only [DenP, Den] using h
theorem den_int {N : Fb} {H : Hp} {i : Int} : Den K N H (.int i) (.int i) := by simp only [Den]
theorem den_bl {N : Fb} {H : Hp} {i : Bool} : Den K N H (.bl i) (.bl i) := by simp only [Den]
theorem den_str {N : Fb} {H : Hp} {i : Str} : Den K N H (.str i) (.str i) := by simp only [Den]
theorem r2_i0 (g : Int → Int → Int) : R2D K (rI0 fun i j => .int (g i j)) (i2 fun i j => some (.int (g i j))) := by
  intro N H x y d1 d2 d Q nh h1 h2 e q
  obtain ⟨i, j, rfl, rfl, e⟩ := i2_inv e
  cases e
  exact ⟨i, j, h1.int, h2.int, q _ H (Same.refl H) den_int⟩
theorem r2_b0 (g : Int → Int → Bool) : R2D K (rI0 fun i j => .bl (g i j)) (i2 fun i j => some (.bl (g i j))) := by
  intro N H x y d1 d2 d Q nh h1 h2 e q
  obtain ⟨i, j, rfl, rfl, e⟩ := i2_inv e
  cases e
  exact ⟨i, j, h1.int, h2.int, q _ H (Same.refl H) den_bl⟩
theorem r2_i {C : Int → Int → Prop} [∀ i j, Decidable (C i j)] (g : Int → Int → Int) : R2D K (rI C fun i j => .int (g i j)) (i2 fun i j => if C i j then some (.int (g i j)) else none) := by
  intro N H x y d1 d2 d Q nh h1 h2 e q
  obtain ⟨i, j, rfl, rfl, e'⟩ := i2_inv e
  split at e'
  · next hc => cases e'; exact ⟨i, j, h1.int, h2.int, hc, q _ H (Same.refl H) den_int⟩
  · cases e'
instance (i j : Int) : Decidable (CDiv i j) := by unfold CDiv; exact inferInstance
instance (i j : Int) : Decidable (CMul i j) := by unfold CMul; exact inferInstance
instance (i j : Int) : Decidable (CPow i j) := by unfold CPow; exact inferInstance
@[simp] def subD : D → D → Option D := i2 fun i j => some (.int (i - j))
@[simp] def mulD : D → D → Option D := i2 fun i j => if CMul i j then some (.int (i * j)) else none
@[simp] def fdivD : D → D → Option D := i2 fun i j => if CDiv i j then some (.int (i / j)) else none
@[simp] def modD : D → D → Option D := i2 fun i j => if 0 < j then some (.int (i % j)) else none
@[simp] def powD : D → D → Option D := i2 fun i j => if CPow i j then some (.int (i ^ j.toNat)) else none
@[simp] def leD : D → D → Option D := i2 fun i j => some (.bl (decide (i ≤ j)))
@[simp] def gtD : D → D → Option D := i2 fun i j => some (.bl (decide (j < i)))
@[simp] def geD : D → D → Option D := i2 fun i j => some (.bl (decide (j ≤ i)))
section
variable {X : Cx} {M : Fb} {H0 : Hp} {a b : Expr} {f g : VE → Option D} {pos : Pos}
theorem ve_sub (ha : PE X a (tP K M H0 f)) (hb : PE X b (tP K M H0 g)) : PE X (.BinOp a .Sub b pos) (tD K M H0 (bin2 subD f g)) := ve_op op_sub (r2_i0 _) ha hb
theorem j_ve_sub (ha : JE X a (tP K M H0 f)) (hb : JE X b (tP K M H0 g)) : JE X (.BinOp a .Sub b pos) (tD K M H0 (bin2 subD f g)) := ⟨ve_sub ha.h hb.h⟩
theorem ve_mul (ha : PE X a (tP K M H0 f)) (hb : PE X b (tP K M H0 g)) : PE X (.BinOp a .Mult b pos) (tD K M H0 (bin2 mulD f g)) := ve_op op_mul (r2_i _) ha hb
theorem j_ve_mul (ha : JE X a (tP K M H0 f)) (hb : JE X b (tP K M H0 g)) : JE X (.BinOp a .Mult b pos) (tD K M H0 (bin2 mulD f g)) := ⟨ve_mul ha.h hb.h⟩
theorem ve_fdiv (ha : PE X a (tP K M H0 f)) (hb : PE X b (tP K M H0 g)) : PE X (.BinOp a .FloorDiv b pos) (tD K M H0 (bin2 fdivD f g)) := ve_op op_fdiv (r2_i _) ha hb
theorem j_ve_fdiv (ha : JE X a (tP K M H0 f)) (hb : JE X b (tP K M H0 g)) : JE X (.BinOp a .FloorDiv b pos) (tD K M H0 (bin2 fdivD f g)) := ⟨ve_fdiv ha.h hb.h⟩
theorem ve_mod (ha : PE X a (tP K M H0 f)) (hb : PE X b (tP K M H0 g)) : PE X (.BinOp a .Mod b pos) (tD K M H0 (bin2 modD f g)) := ve_op op_mod (r2_i _) ha hb
theorem j_ve_mod (ha : JE X a (tP K M H0 f)) (hb : JE X b (tP K M H0 g)) : JE X (.BinOp a .Mod b pos) (tD K M H0 (bin2 modD f g)) := ⟨ve_mod ha.h hb.h⟩
theorem ve_pow (ha : PE X a (tP K M H0 f)) (hb : PE X b (tP K M H0 g)) : PE X (.BinOp a .Pow b pos) (tD K M H0 (bin2 powD f g)) := ve_op op_pow (r2_i _) ha hb
theorem j_ve_pow (ha : JE X a (tP K M H0 f)) (hb : JE X b (tP K M H0 g)) : JE X (.BinOp a .Pow b pos) (tD K M H0 (bin2 powD f g)) := ⟨ve_pow ha.h hb.h⟩
@[simp] def negD : Option D → Option D
  | some (.int i) => some (.int (-i))
  | _ => none
theorem ve_neg (ha : PE X a (tP K M H0 f)) : PE X (.UnaryOp .USub a pos) (tD K M H0 fun ρ => negD (f ρ)) := (pe_un un_neg ha).mono fun σ H Q ⟨ρ, d, R, e, q⟩ => by
  try dsimp only at e q
  unfold negD at e
  split at e
  · next i hf => cases e; exact ⟨ρ, .int i, R, hf, fun v H' s hv => ⟨i, hv.int, q _ H' s den_int⟩⟩
  · cases e
theorem j_ve_neg (ha : JE X a (tP K M H0 f)) : JE X (.UnaryOp .USub a pos) (tD K M H0 fun ρ => negD (f ρ)) := ⟨ve_neg ha.h⟩
end
end
section
variable {X : Cx}
def rCatG (K : PySem.W.Frag) : R2 := fun x y H Q => ∃ l b xs zs, x = .ref l ∧ y = .ref b ∧ SqL K H l xs ∧ SqL K H b zs ∧ xs.length + zs.length ≤ sizeLine ∧ ∀ p, H p = none → Q (.ref p) (upd H p (.lst (xs ++ zs)))
theorem op_catG : OpR X (binaryOp .Add) (rCatG X.K) := by
  intro pins s σ H x y v u Q I rx ry h
  obtain ⟨l, b, xs, zs, rfl, rfl, hH, hB, hz, q⟩ := h
  cases rx
  cases ry
  obtain ⟨its, r, p1, z1⟩ := I.list hH
  obtain ⟨its2, r2, p2, z2⟩ := I.list hB
  have hl := r.length
  have hl2 := r2.length
  obtain ⟨⟨cls, dd, data, sl⟩, ho, hc, n, hd⟩ := p1.isList
  obtain ⟨⟨cls2, dd2, data2, sl2⟩, ho2, hc2, n2, hd2⟩ := p2.isList
  simp only at hc hd hc2 hd2
  subst hc hd hc2 hd2
  have e : its.toArray ++ its2.toArray = (its ++ its2).toArray := by simp
  refine concat_meets ⟨_, ho, rfl⟩ ⟨_, ho2, rfl⟩ noFill_list_add seq_list_add PySem.F.slot_list_add PySem.F.entry_list_add (PySem.F.args_list_add_2 _ _) (list_addW l b its.toArray its2.toArray n n2 dd dd2 sl sl2 (by rw [List.size_toArray, List.size_toArray]; omega)) ⟨ho, ho2, ?_⟩
  rw [e]
  exact ⟨.ref _, _, I.lnew (t' := s.toks) (r.append r2) (by rw [List.length_append]; omega), rfl, q _ I.fresh⟩
def rCatGT (K : PySem.W.Frag) : R2 := fun x y H Q => ∃ l b xs zs, x = .ref l ∧ y = .ref b ∧ SqT K H l xs ∧ SqT K H b zs ∧ xs.length + zs.length ≤ sizeLine ∧
  (xs = [] → Q (.ref b) H) ∧ (zs = [] → Q (.ref l) H) ∧ ∀ p, H p = none → Q (.ref p) (upd H p (.tup (xs ++ zs)))
theorem op_catGT : OpR X (binaryOp .Add) (rCatGT X.K) := by
  intro pins s σ H x y v u Q I rx ry h
  obtain ⟨l, b, xs, zs, rfl, rfl, hH, hB, hz, qx, qz, q⟩ := h
  cases rx
  cases ry
  obtain ⟨its, r, p1, z1⟩ := I.tuple hH
  obtain ⟨its2, r2, p2, z2⟩ := I.tuple hB
  have hl := r.length
  have hl2 := r2.length
  obtain ⟨⟨cls, dd, data, sl⟩, ho, hc, n, hd⟩ := id p1
  obtain ⟨⟨cls2, dd2, data2, sl2⟩, ho2, hc2, n2, hd2⟩ := id p2
  simp only at hc hd hc2 hd2
  subst hc hd hc2 hd2
  by_cases h1 : xs = []
  · have hi : its.toArray.isEmpty = true := by
      subst h1
      have : its = [] := List.length_eq_zero_iff.mp hl.symm
      subst this; rfl
    exact concat_meets ⟨_, ho, rfl⟩ ⟨_, ho2, rfl⟩ noFill_tuple_add seq_tuple_add PySem.F.slot_tuple_add PySem.F.entry_tuple_add (PySem.F.args_tuple_add_2 _ _) (tuple_addW0 l b its.toArray its2.toArray n n2 dd dd2 sl sl2 hi) ⟨ho, ho2, ⟨.ref b, H, I, rfl, qx h1⟩⟩
  · have hi : ¬ its.toArray.isEmpty = true := by
      intro z
      have : its = [] := by simpa using z
      subst this
      exact h1 (List.length_eq_zero_iff.mp hl)
    by_cases h2 : zs = []
    · have hi2 : its2.toArray.isEmpty = true := by
        subst h2
        have : its2 = [] := List.length_eq_zero_iff.mp hl2.symm
        subst this; rfl
      exact concat_meets ⟨_, ho, rfl⟩ ⟨_, ho2, rfl⟩ noFill_tuple_add seq_tuple_add PySem.F.slot_tuple_add PySem.F.entry_tuple_add (PySem.F.args_tuple_add_2 _ _) (tuple_addW1 l b its.toArray its2.toArray n n2 dd dd2 sl sl2 hi hi2) ⟨ho, ho2, ⟨.ref l, H, I, rfl, qz h2⟩⟩
    · have hi2 : ¬ its2.toArray.isEmpty = true := by
        intro z
        have : its2 = [] := by simpa using z
        subst this
        exact h2 (List.length_eq_zero_iff.mp hl2)
      have e : its.toArray ++ its2.toArray = (its ++ its2).toArray := by simp
      refine concat_meets ⟨_, ho, rfl⟩ ⟨_, ho2, rfl⟩ noFill_tuple_add seq_tuple_add PySem.F.slot_tuple_add PySem.F.entry_tuple_add (PySem.F.args_tuple_add_2 _ _) (tuple_addW2 l b its.toArray its2.toArray n n2 dd dd2 sl sl2 hi hi2 (by rw [List.size_toArray, List.size_toArray]; omega)) ⟨ho, ho2, ?_⟩
      rw [e]
      refine ⟨.ref s.heap.objs.size, upd H s.heap.objs.size (.tup (xs ++ zs)), I.laid (t' := s.toks) (fun b u e => Heap.get?_push_of_some _ e) (Nat.le_refl _) ?_, rfl, q _ I.fresh⟩
      exact ⟨by rw [List.length_append]; omega, its ++ its2, r.append r2, IsTup.new _ _⟩
end
@[simp] def addD : D → D → Option D
  | .int i, .int j => some (.int (i + j))
  | .str x, .str y => if x.length + y.length ≤ sizeLine then some (.str (x ++ y)) else none
  | .lst xs, .lst ys => if xs.length + ys.length ≤ sizeLine then some (.lst (xs ++ ys)) else none
  | .tup xs, .tup ys => if xs.length + ys.length ≤ sizeLine then some (.tup (xs ++ ys)) else none
  | _, _ => none
def rAddD (K : PySem.W.Frag) : R2 := fun x y H Q => rI0 (fun i j => .int (i + j)) x y H Q ∨ (∃ i j, x = .str i ∧ y = .str j ∧ i.length + j.length ≤ sizeLine ∧ Q (.str (i ++ j)) H) ∨ rCatG K x y H Q ∨ rCatGT K x y H Q
theorem op_addD {X : Cx} : OpR X (binaryOp .Add) (rAddD X.K) := op_add.or (op_add_str.or (op_catG.or op_catGT))
theorem den_newL {K : PySem.W.Frag} {N : Fb} {H : Hp} {xs : List D} {vs : List V} {p : Addr} (nh : ∀ a, N a → H a ≠ none) (hp : H p = none) (h : DenL K N H xs vs) : Den K N (upd H p (.lst vs)) (.lst xs) (.ref p) := by
  simp only [Den]
  exact ⟨p, vs, rfl, .of (fun z => nh p z hp) upd_same, h.same (same_new hp)⟩
theorem den_newT {K : PySem.W.Frag} {N : Fb} {H : Hp} {xs : List D} {vs : List V} {p : Addr} (hp : H p = none) (h : DenL K N H xs vs) : Den K N (upd H p (.tup vs)) (.tup xs) (.ref p) := by
  simp only [Den]
  exact ⟨p, vs, rfl, SqT.of upd_same, h.same (same_new hp)⟩
theorem r2_add {K : PySem.W.Frag} : R2D K (rAddD K) addD := by
  intro N H x y d1 d2 d Q nh h1 h2 e q
  unfold addD at e
  split at e
  · cases e; exact .inl ⟨_, _, h1.int, h2.int, q _ H (Same.refl H) den_int⟩
  · split at e
    · next hz => cases e; exact .inr (.inl ⟨_, _, h1.str, h2.str, hz, q _ H (Same.refl H) den_str⟩)
    · cases e
  · split at e
    · next hz =>
      cases e
      obtain ⟨a, vs, e1, q1, r1⟩ := h1
      obtain ⟨b, ws, e2, q2, r2⟩ := h2
      exact .inr (.inr (.inl ⟨a, b, vs, ws, e1, e2, q1, q2, by rw [← r1.length, ← r2.length]; exact hz, fun p hp => q _ _ (same_new hp) (den_newL nh hp (r1.append r2))⟩))
    · cases e
  · split at e
    · next hz =>
      cases e
      obtain ⟨a, vs, e1, q1, r1⟩ := h1.tup
      obtain ⟨b, ws, e2, q2, r2⟩ := h2.tup
      refine .inr (.inr (.inr ⟨a, b, vs, ws, e1, e2, q1, q2, by rw [← r1.length, ← r2.length]; exact hz, fun z => ?_, fun z => ?_, fun p hp => q _ _ (same_new hp) (den_newT hp (r1.append r2))⟩))
      · refine q _ H (Same.refl H) ?_
        simp only [Den]
        exact ⟨b, vs ++ ws, rfl, by rw [z]; exact q2, r1.append r2⟩
      · refine q _ H (Same.refl H) ?_
        simp only [Den]
        exact ⟨a, vs ++ ws, rfl, by rw [z, List.append_nil]; exact q1, r1.append r2⟩
    · cases e
  · cases e
theorem ve_add {X : Cx} {M : Fb} {H0 : Hp} {a b : Expr} {f g : VE → Option D} {pos : Pos} (ha : PE X a (tP X.K M H0 f)) (hb : PE X b (tP X.K M H0 g)) : PE X (.BinOp a .Add b pos) (tD X.K M H0 (bin2 addD f g)) := ve_op op_addD r2_add ha hb
theorem j_ve_add {X : Cx} {M : Fb} {H0 : Hp} {a b : Expr} {f g : VE → Option D} {pos : Pos} (ha : JE X a (tP X.K M H0 f)) (hb : JE X b (tP X.K M H0 g)) : JE X (.BinOp a .Add b pos) (tD X.K M H0 (bin2 addD f g)) := ⟨ve_add ha.h hb.h⟩
section
variable {prog : Program} {w : World} {A : Around} {E : Value → Shared → Prop} {s : Shared}
theorem getItem_tuple_whole {t sl : Addr} {items : Array Value} {vl vu : Value} {lo hi : Option Int} {Q : Value → Shared → Prop} (ht : IsTup s.heap t items) (hs : s.heap.IsSliceOf sl vl vu .none) (pl : IsPart vl lo) (pu : IsPart vu hi)
    (hw : HT.sIx items.size 0 lo = 0 ∧ HT.sIx items.size items.size hi = items.size) (h : Q (.ref t) s) : wpAny (model prog w) A (getItem (.ref t) (.ref sl)) Q E s := by
  obtain ⟨os, hos, hcs, hds⟩ := id hs
  have hTs : s.TypeIs (.ref sl) "slice" := ⟨os, hos, hcs⟩
  unfold getItem
  try with_reducible refine wpAny_holding ?_
  first | refine wpAny_bind (wpAny_pure ?_) | skip
  refine wpAny_bind (wpAny_sequenceKey ht.typeIs (by decide) ?_)
  refine wpAny_bind (wpAny_callSpecial?_slot (name := Str.ofString "__getitem__") ht.typeIs PyProof.Rows.slot_tuple_getitem
    (wpAny_call_entry PyProof.Rows.slot_tuple_getitem ht.typeIs entry_tuple_getitem ?_ (args_tuple_getitem _ _)))
  show wpAny _ _ (Builtin.Tuple.tupleItemsOf (.ref t) >>= _) _ _ s
  refine wpAny_bind (PyProof.Rows.tupleItemsOf_ ht ?_)
  refine wpAny_bind (wpAny_typeOf hTs ?_)
  rw [if_pos (by decide)]
  refine wpAny_bind (HT.sliceApplied_gen hs pl pu ?_)
  have hyes : (((HT.sIx items.size 0 lo : Nat) : Int) == 0 && (1 : Int) == 1 && (HT.sIx items.size items.size hi - HT.sIx items.size 0 lo) == items.size) = true := by
    rw [hw.1, hw.2]; simp
  show wpAny _ _ (if (((HT.sIx items.size 0 lo : Nat) : Int) == 0 && (1 : Int) == 1 && (HT.sIx items.size items.size hi - HT.sIx items.size 0 lo) == items.size) = true then _ else _) _ _ s
  rw [if_pos hyes]
  unfold Builtin.Tuple.tupleIsExact
  refine wpAny_bind (wpAny_bind (wpAny_typeOf ht.typeIs (wpAny_pure ?_)))
  rw [if_pos (by decide)]
  exact wpAny_bind (wpAny_rule (wpAny_pure ⟨_, rfl, wpAny_pure h⟩))
end
def rSlTG (K : PySem.W.Frag) : V → Option Int → Option Int → Hp → VK → Prop := fun x lo hi H Q => ∃ a xs, x = .ref a ∧ SqT K H a xs ∧ (cutV xs lo hi = xs → Q (.ref a) H) ∧ ∀ p, H p = none → Q (.ref p) (upd H p (.tup (cutV xs lo hi)))
theorem sl_tupG {X : Cx} : SlR X (rSlTG X.K) := by
  intro pins s σ H x v vl vu lo hi sl Q I rx hs pl pu h
  obtain ⟨a, xs, rfl, hx, qw, q⟩ := h
  by_cases hw : HT.sIx xs.length 0 lo = 0 ∧ HT.sIx xs.length xs.length hi = xs.length
  · cases rx
    obtain ⟨its, r, ht, hz⟩ := I.tuple hx
    have hlen : its.toArray.size = xs.length := by rw [List.size_toArray]; exact r.length.symm
    refine ⟨"tuple", _, PyProof.Rows.slot_tuple_getitem.lookup, ht.typeIs, getItem_tuple_whole ht hs pl pu (by rw [hlen]; exact hw) ⟨.ref a, H, I, rfl, qw ?_⟩⟩
    unfold cutV
    rw [hw.1, hw.2, List.drop_zero, Nat.sub_zero, List.take_length]
  · exact sl_tup pins s σ H _ v vl vu lo hi sl Q I rx hs pl pu ⟨a, xs, rfl, hx, hw, q⟩
@[simp] def ixD : D → D → Option D
  | .lst xs, .int i => atI xs i
  | .tup xs, .int i => atI xs i
  | .str x, .int i => if x.length ≤ sizeLine then (atI x.cps.toList i).map fun c => .str ⟨#[c]⟩ else none
  | _, _ => none
theorem DenL.atI {K : PySem.W.Frag} {N : Fb} {H : Hp} {xs : List D} {vs : List V} {i : Int} {d : D} (h : DenL K N H xs vs) (e : L2.atI xs i = some d) : ∃ v, L2.atI vs i = some v ∧ Den K N H d v := by
  unfold L2.atI at e ⊢
  rw [← h.length]
  cases hj : ixN xs.length i with
  | none => rw [hj] at e; cases e
  | some j => rw [hj] at e; exact h.get e
theorem r2_ix {K : PySem.W.Frag} : R2D K (rIx K) ixD := by
  intro N H x y d1 d2 d Q nh h1 h2 e q
  unfold ixD at e
  split at e
  · obtain ⟨a, vs, e1, q1, r1⟩ := h1
    obtain ⟨v, ev, hv⟩ := r1.atI e
    exact .inl ⟨a, vs, _, v, e1, h2.int, q1, ev, q v H (Same.refl H) hv⟩
  · obtain ⟨a, vs, e1, q1, r1⟩ := h1.tup
    obtain ⟨v, ev, hv⟩ := r1.atI e
    exact .inr (.inl ⟨a, vs, _, v, e1, h2.int, q1, ev, q v H (Same.refl H) hv⟩)
  · split at e
    · next z i hz =>
      cases hc : atI z.cps.toList i with
      | none => rw [hc] at e; cases e
      | some c => rw [hc] at e; cases e; exact .inr (.inr ⟨z, i, c, h1.str, h2.int, hz, hc, q _ H (Same.refl H) den_str⟩)
    · cases e
  · cases e
section
variable {X : Cx} {K : PySem.W.Frag} {M : Fb} {H0 : Hp} {a b e : Expr} {f g : VE → Option D} {pos p2 : Pos}
theorem ve_item (ha : PE X a (tP X.K M H0 f)) (hb : PE X b (tP X.K M H0 g)) (hs : PlainIx b) : PE X (.Subscript a b pos) (tD X.K M H0 (bin2 ixD f g)) := ve_ix ix_seq r2_ix ha hb hs
theorem j_ve_item (ha : JE X a (tP X.K M H0 f)) (hb : JE X b (tP X.K M H0 g)) (hs : PlainIx b) : JE X (.Subscript a b pos) (tD X.K M H0 (bin2 ixD f g)) := ⟨ve_item ha.h hb.h hs⟩
def tO (K : PySem.W.Frag) (M : Fb) (H0 : Hp) (o : VE → Option (Option Int)) : TO := fun σ H Q => ∃ ρ i, Rel K M H0 ρ σ H ∧ o ρ = some i ∧ ∀ H', Same H H' → Q i H'
@[simp] def asI : Option D → Option (Option Int)
  | some (.int i) => some (some i)
  | _ => none
theorem PO.mono {e : Option Expr} {t t' : TO} (h : PO X e t) (m : ∀ σ H Q, t' σ H Q → t σ H Q) : PO X e t' := by
  intro pins s σ H Q I q
  exact h pins s σ H Q I (m σ H Q q)
theorem vo_none : PO X none (tO K M H0 fun _ => some none) := PO.mono po_none fun σ H Q ⟨ρ, i, R, e, q⟩ => by (try dsimp only at e q); cases e; exact q H (Same.refl H)
theorem j_vo_none  : JO X none (tO K M H0 fun _ => some none) := ⟨vo_none ⟩
theorem vo_some (h : PE X e (tP K M H0 f)) : PO X (some e) (tO K M H0 fun ρ => asI (f ρ)) := PO.mono (po_some h) fun σ H Q ⟨ρ, i, R, e, q⟩ => by
  try dsimp only at e q
  unfold asI at e
  split at e
  · next j hf => cases e; exact ⟨ρ, .int j, R, hf, fun v H' s hv => ⟨j, hv.int, q H' s⟩⟩
  · cases e
theorem j_vo_some (h : JE X e (tP K M H0 f)) : JO X (some e) (tO K M H0 fun ρ => asI (f ρ)) := ⟨vo_some h.h⟩
def cutD {α : Type} (xs : List α) (lo hi : Option Int) : List α := (xs.drop (HT.sIx xs.length 0 lo)).take (HT.sIx xs.length xs.length hi - HT.sIx xs.length 0 lo)
@[simp] def slD (x : D) (lo hi : Option Int) : Option D := match x with
  | .lst xs => some (.lst (cutD xs lo hi))
  | .tup xs => some (.tup (cutD xs lo hi))
  | .str x => if x.length ≤ sizeLine then some (.str (Txt.slice x lo hi)) else none
  | _ => none
@[simp] def slL (x : D) (lo hi : Option Int) : Option (List D) := match x with
  | .lst xs => some (cutD xs lo hi)
  | _ => none
theorem DenL.cut {K : PySem.W.Frag} {N : Fb} {H : Hp} {xs : List D} {vs : List V} (h : DenL K N H xs vs) (lo hi : Option Int) : DenL K N H (cutD xs lo hi) (cutV vs lo hi) := by
  unfold cutD cutV
  rw [h.length]
  exact (h.drop _).take _
@[simp] def sl3 {α : Type} (f : VE → Option D) (lo hi : VE → Option (Option Int)) (F : D → Option Int → Option Int → Option α) : VE → Option α := fun ρ => (f ρ).bind fun x => (lo ρ).bind fun l => (hi ρ).bind fun h => F x l h
theorem sl3_inv {α : Type} {f : VE → Option D} {lo hi : VE → Option (Option Int)} {F : D → Option Int → Option Int → Option α} {ρ : VE} {d : α} (h : sl3 f lo hi F ρ = some d) : ∃ x l u, f ρ = some x ∧ lo ρ = some l ∧ hi ρ = some u ∧ F x l u = some d := by
  unfold sl3 at h
  cases hf : f ρ with
  | none => rw [hf] at h; cases h
  | some x =>
    cases hl : lo ρ with
    | none => rw [hf, hl] at h; cases h
    | some l =>
      cases hu : hi ρ with
      | none => rw [hf, hl, hu] at h; cases h
      | some u => rw [hf, hl, hu] at h; exact ⟨x, l, u, rfl, rfl, rfl, h⟩
theorem ve_slice {el eu : Option Expr} {lo hi : VE → Option (Option Int)} (he : PE X e (tP X.K M H0 f)) (hl : PO X el (tO X.K M H0 lo)) (hu : PO X eu (tO X.K M H0 hi)) :
    PE X (.Subscript e (.Slice el eu none p2) pos) (tD X.K M H0 (sl3 f lo hi slD)) := (pe_slice (sl_list.or (sl_tupG.or sl_str)) he hl hu).mono fun σ H Q ⟨ρ, d, R, ex, q⟩ => by
  try dsimp only at ex q
  obtain ⟨x, l, u, e1, e2, e3, e4⟩ := sl3_inv ex
  refine ⟨ρ, x, R, e1, fun v H1 s1 hv => ⟨ρ, l, R.st s1, e2, fun H2 s2 => ⟨ρ, u, (R.st s1).st s2, e3, fun H3 s3 => ?_⟩⟩⟩
  have hv := (hv.same s2).same s3
  have s := (s1.trans s2).trans s3
  have R3 := R.st s
  unfold slD at e4
  split at e4
  · cases e4
    obtain ⟨a, vs, ea, qa, ra⟩ := hv
    exact .inl ⟨a, vs, ea, qa, fun p hp => q _ _ (s.trans (same_new hp)) (den_newL R3.nh hp (ra.cut l u))⟩
  · cases e4
    obtain ⟨a, vs, ea, qa, ra⟩ := hv.tup
    refine .inr (.inl ⟨a, vs, ea, qa, fun z => q _ _ s ?_, fun p hp => q _ _ (s.trans (same_new hp)) (den_newT hp (ra.cut l u))⟩)
    simp only [Den]
    exact ⟨a, vs, rfl, qa, z ▸ ra.cut l u⟩
  · split at e4
    · next hz => cases e4; exact .inr (.inr ⟨_, hv.str, hz, q _ _ s den_str⟩)
    · cases e4
  · cases e4
theorem j_ve_slice {el eu : Option Expr} {lo hi : VE → Option (Option Int)} (he : JE X e (tP X.K M H0 f)) (hl : JO X el (tO X.K M H0 lo)) (hu : JO X eu (tO X.K M H0 hi)) : JE X (.Subscript e (.Slice el eu none p2) pos) (tD X.K M H0 (sl3 f lo hi slD)) := ⟨ve_slice he.h hl.h hu.h⟩
end
end L2
set_option Elab.async false
set_option linter.all false
set_option maxRecDepth 100000
namespace L2
open PySem PySem.Spec PyProof.Rows
mutual
def eqD : D → D → Bool
  | .non, .non => true
  | .bl a, .bl b => a == b
  | .bl a, .int b => (if a then 1 else 0) == b
  | .int a, .bl b => a == (if b then 1 else 0)
  | .int a, .int b => a == b
  | .str a, .str b => a == b
  | .tup xs, .tup ys => eqDs xs ys
  | .lst xs, .lst ys => eqDs xs ys
  | _, _ => false
def eqDs : List D → List D → Bool
  | [], [] => true
  | x :: xs, y :: ys => eqD x y && eqDs xs ys
  | _, _ => false
end
@[simp] def okD : Nat → D → Bool
  | _, .non => true
  | _, .bl _ => true
  | _, .int _ => true
  | _, .str _ => true
  | n + 1, .tup xs => xs.all (okD n)
  | n + 1, .lst xs => xs.all (okD n)
  | _, _ => false
mutual
theorem eqD_refl : ∀ (n : Nat) (d : D), okD n d = true → eqD d d = true
  | _, .non, _ => by simp only [eqD]
  | _, .bl _, _ => by simp only [eqD, beq_self_eq_true]
  | _, .int _, _ => by simp only [eqD, beq_self_eq_true]
  | _, .str _, _ => by simp only [eqD, beq_self_eq_true]
  | 0, .ty _, h => by simp [okD] at h
  | _ + 1, .ty _, h => by simp [okD] at h
  | 0, .tup xs, h => by simp [okD] at h
  | 0, .lst xs _, h => by simp [okD] at h
  | n + 1, .tup xs, h => by simp only [okD] at h; simp only [eqD]; exact eqDs_refl n xs h
  | n + 1, .lst xs false, h => by simp only [okD] at h; simp only [eqD]; exact eqDs_refl n xs h
  | n + 1, .lst xs true, h => by simp [okD] at h
theorem eqDs_refl : ∀ (n : Nat) (xs : List D), xs.all (okD n) = true → eqDs xs xs = true
  | _, [], _ => by simp only [eqDs]
  | n, x :: xs, h => by
    simp only [List.all_cons, Bool.and_eq_true] at h
    simp only [eqDs, Bool.and_eq_true]
    exact ⟨eqD_refl n x h.1, eqDs_refl n xs h.2⟩
end
theorem eqDs_len : ∀ {xs ys : List D}, xs.length ≠ ys.length → eqDs xs ys = false
  | [], [], h => absurd rfl h
  | [], _ :: _, _ => by simp only [eqDs]
  | _ :: _, [], _ => by simp only [eqDs]
  | x :: xs, y :: ys, h => by
    simp only [eqDs]
    rw [eqDs_len (xs := xs) (ys := ys) (by simpa using h), Bool.and_false]
theorem eqDs_all : ∀ {xs ys : List D}, xs.length = ys.length → eqDs xs ys = (List.range xs.length).all fun j => eqD (xs.getD j .non) (ys.getD j .non)
  | [], [], _ => by simp [eqDs]
  | [], _ :: _, h => by simp at h
  | _ :: _, [], h => by simp at h
  | x :: xs, y :: ys, h => by
    have ih := eqDs_all (xs := xs) (ys := ys) (by simpa using h)
    simp only [eqDs, List.length_cons, List.range_succ_eq_map, List.all_cons, List.getD_cons_zero, List.all_map, ih]
    rfl
section
variable {X : Cx} {pins : List (Addr × Obj)} {σ : St} {H : Hp} {s : Shared}
theorem Inv.apart (I : Inv X pins σ H s) {a : Addr} {xs ys : List V} (h : SqL X.K H a xs) (h' : SqT X.K H a ys) : False := by
  obtain ⟨its, r, ⟨o, n, e, c, _⟩, _⟩ := I.list h
  obtain ⟨its', r', ⟨o', e', c', _⟩, _⟩ := I.tuple h'
  rw [e] at e'; cases e'
  rw [c] at c'
  exact absurd c' (by decide)
theorem Rd.dct_inj {H : Hp} {a : Addr} {ks ks' : List KT} {vs vs' : List V} (h : Rd H a (.dct ks vs)) (h' : Rd H a (.dct ks' vs')) : vs = vs' := by
  rcases h with h | ⟨o, h⟩ <;> rcases h' with h' | ⟨o', h'⟩ <;> (rw [h] at h'; cases h'; try rfl)
theorem Inv.apartDL (I : Inv X pins σ H s) {a : Addr} {ks : List KT} {xs ys : List V} (h : Rd H a (.dct ks xs)) (h' : SqL X.K H a ys) : False := by
  obtain ⟨_, _, _, o, _, _, e, c, _⟩ := h.ok I.hok
  obtain ⟨its', r', ⟨o', n', e', c', _⟩, _⟩ := I.list h'
  rw [e] at e'; cases e'
  rw [c.1] at c'
  exact absurd c' (by decide)
theorem Inv.apartDT (I : Inv X pins σ H s) {a : Addr} {ks : List KT} {xs ys : List V} (h : Rd H a (.dct ks xs)) (h' : SqT X.K H a ys) : False := by
  obtain ⟨_, _, _, o, _, _, e, c, _⟩ := h.ok I.hok
  obtain ⟨its', r', ⟨o', e', c', _⟩, _⟩ := I.tuple h'
  rw [e] at e'; cases e'
  rw [c.1] at c'
  exact absurd c' (by decide)
mutual
/-- what an address denotes is one thing -/
theorem den_inj (I : Inv X pins σ H s) {N N' : Fb} : ∀ (d d' : D) (v : V), DenP X.K N H d v → DenP X.K N' H d' v → d = d'
  | .non, d', v, h, h' => by
    have h := h.non
    cases d' with
    | non => rfl
    | bl _ => rw [h'.bl] at h; cases h
    | int _ => rw [h'.int] at h; cases h
    | str _ => rw [h'.str] at h; cases h
    | ty _ => rw [h'.ty] at h; cases h
    | tup _ => obtain ⟨_, _, e, _⟩ := h'.tup; rw [e] at h; cases h
    | lst _ fl => cases fl <;> (obtain ⟨_, _, e, _⟩ := h'; rw [e] at h; cases h)
  | .bl _, d', v, h, h' => by
    have h := h.bl
    cases d' with
    | non => rw [h'.non] at h; cases h
    | bl _ => rw [h'.bl] at h; cases h; rfl
    | int _ => rw [h'.int] at h; cases h
    | str _ => rw [h'.str] at h; cases h
    | ty _ => rw [h'.ty] at h; cases h
    | tup _ => obtain ⟨_, _, e, _⟩ := h'.tup; rw [e] at h; cases h
    | lst _ fl => cases fl <;> (obtain ⟨_, _, e, _⟩ := h'; rw [e] at h; cases h)
  | .int _, d', v, h, h' => by
    have h := h.int
    cases d' with
    | non => rw [h'.non] at h; cases h
    | bl _ => rw [h'.bl] at h; cases h
    | int _ => rw [h'.int] at h; cases h; rfl
    | str _ => rw [h'.str] at h; cases h
    | ty _ => rw [h'.ty] at h; cases h
    | tup _ => obtain ⟨_, _, e, _⟩ := h'.tup; rw [e] at h; cases h
    | lst _ fl => cases fl <;> (obtain ⟨_, _, e, _⟩ := h'; rw [e] at h; cases h)
  | .str _, d', v, h, h' => by
    have h := h.str
    cases d' with
    | non => rw [h'.non] at h; cases h
    | bl _ => rw [h'.bl] at h; cases h
    | int _ => rw [h'.int] at h; cases h
    | str _ => rw [h'.str] at h; cases h; rfl
    | ty _ => rw [h'.ty] at h; cases h
    | tup _ => obtain ⟨_, _, e, _⟩ := h'.tup; rw [e] at h; cases h
    | lst _ fl => cases fl <;> (obtain ⟨_, _, e, _⟩ := h'; rw [e] at h; cases h)
  | .ty _, d', v, h, h' => by
    have h := h.ty
    cases d' with
    | non => rw [h'.non] at h; cases h
    | bl _ => rw [h'.bl] at h; cases h
    | int _ => rw [h'.int] at h; cases h
    | str _ => rw [h'.str] at h; cases h
    | ty _ => rw [h'.ty] at h; cases h; rfl
    | tup _ => obtain ⟨_, _, e, _⟩ := h'.tup; rw [e] at h; cases h
    | lst _ fl => cases fl <;> (obtain ⟨_, _, e, _⟩ := h'; rw [e] at h; cases h)
  | .tup xs, d', v, h, h' => by
    obtain ⟨a, vs, e, q, r⟩ := h.tup
    subst e
    cases d' with
    | non => cases h'.non
    | bl _ => cases h'.bl
    | int _ => cases h'.int
    | str _ => cases h'.str
    | ty _ => cases h'.ty
    | tup ys =>
      obtain ⟨b, ws, e, q', r'⟩ := h'.tup
      cases e
      have := I.tuple_inj q q'
      subst this
      rw [denL_inj I xs ys vs r r']
    | lst _ fl =>
      cases fl with
      | false => obtain ⟨b, ws, e, q', _⟩ := h'; cases e; exact (I.apart q' q).elim
      | true => obtain ⟨b, ws, e, q', _⟩ := h'; cases e; exact (I.apartDT q' q).elim
  | .lst xs true, d', v, h, h' => by
    obtain ⟨a, vs, e, q, r⟩ := h
    subst e
    cases d' with
    | non => cases h'.non
    | bl _ => cases h'.bl
    | int _ => cases h'.int
    | str _ => cases h'.str
    | ty _ => cases h'.ty
    | tup ys => obtain ⟨b, ws, e, q', r'⟩ := h'.tup; cases e; exact (I.apartDT q q').elim
    | lst ys fl =>
      cases fl with
      | false => obtain ⟨b, ws, e, q', r'⟩ := h'; cases e; exact (I.apartDL q q').elim
      | true =>
        obtain ⟨b, ws, e, q', r'⟩ := h'
        cases e
        have := Rd.dct_inj q q'
        subst this
        rw [denL_inj I xs ys vs r r']
  | .lst xs false, d', v, h, h' => by
    obtain ⟨a, vs, e, q, r⟩ := h
    subst e
    cases d' with
    | non => cases h'.non
    | bl _ => cases h'.bl
    | int _ => cases h'.int
    | str _ => cases h'.str
    | ty _ => cases h'.ty
    | tup ys => obtain ⟨b, ws, e, q', r'⟩ := h'.tup; cases e; exact (I.apart q q').elim
    | lst ys fl =>
      cases fl with
      | true => obtain ⟨b, ws, e, q', r'⟩ := h'; cases e; exact (I.apartDL q' q).elim
      | false =>
      obtain ⟨b, ws, e, q', r'⟩ := h'
      cases e
      have := I.list_inj q q'
      subst this
      rw [denL_inj I xs ys vs r r']
theorem denL_inj (I : Inv X pins σ H s) {N N' : Fb} : ∀ (xs ys : List D) (vs : List V), DenL X.K N H xs vs → DenL X.K N' H ys vs → xs = ys
  | [], ys, vs, h, h' => by
    simp only [DenL] at h; subst h
    cases ys with
    | nil => rfl
    | cons y ys => simp only [DenL] at h'; obtain ⟨_, _, e, _⟩ := h'; cases e
  | x :: xs, ys, vs, h, h' => by
    simp only [DenL] at h
    obtain ⟨v, r, e, q, t⟩ := h
    subst e
    cases ys with
    | nil => simp only [DenL] at h'; cases h'
    | cons y ys =>
      simp only [DenL] at h'
      obtain ⟨v', r', e, q', t'⟩ := h'
      cases e
      rw [den_inj I x y v q.p q'.p, denL_inj I xs ys r t t']
end
open SeqAt
theorem getD_some {α : Type} {xs : List α} {j : Nat} {d e : α} (h : xs[j]? = some e) : xs.getD j d = e := by simp [List.getD_eq_getElem?_getD, h]
theorem arr_get {its : List Value} {j : Nat} {u : Value} (h1 : j < its.toArray.size) (e : its[j]? = some u) : its.toArray[j] = u := by
  obtain ⟨_, e⟩ := List.getElem?_eq_some_iff.mp e
  simpa using e
def BothAt (A : Around) (s : Shared) (u v : Value) (b : Bool) : Prop := RcAt A s u v b ∧ EqAt A s u v b ∧ RcNeAt A s u v (!b)
theorem in1_units (A : Around) : A.in1.units = A.units + 1 := rfl
theorem bothAt_D (I : Inv X pins σ H s) {N : Fb} : ∀ (n : Nat) (A : Around) (x y : D) (vx vy : V) (u v : Value), A.units + n < cLine → okD n x = true → okD n y = true → DenP X.K N H x vx → DenP X.K N H y vy → RelV vx u → RelV vy v → BothAt A s u v (eqD x y) := by
  intro n
  induction n with
  | zero =>
    intro A x y vx vy u v hu ox oy hx hy rx ry
    have hu' : A.units < cLine := by omega
    cases x with
    | non =>
      rw [hx.non] at rx; cases rx
      cases y with
      | non => rw [hy.non] at ry; cases ry; simp only [eqD]; exact ⟨RcAt.none_none, EqAt.same _, RcNeAt.none_none⟩
      | bl _ => rw [hy.bl] at ry; cases ry; simp only [eqD]; exact ⟨RcAt.none_bool _, EqAt.none_bool _, RcNeAt.none_bool _⟩
      | int _ => rw [hy.int] at ry; obtain ⟨t2, rfl⟩ := ry; simp only [eqD]; exact ⟨RcAt.none_int _ _, EqAt.none_int _ _, RcNeAt.none_int _ _⟩
      | str _ => rw [hy.str] at ry; obtain ⟨t2, rfl⟩ := ry; simp only [eqD]; exact ⟨RcAt.none_str _ _, EqAt.none_str _ _, RcNeAt.none_str _ _⟩
      | tup ys => simp [okD] at oy
      | lst ys => simp [okD] at oy
      | ty _ => simp [okD] at oy
    | bl _ =>
      rw [hx.bl] at rx; cases rx
      cases y with
      | non => rw [hy.non] at ry; cases ry; simp only [eqD]; exact ⟨RcAt.bool_none _, EqAt.bool_none _, RcNeAt.bool_none _⟩
      | bl _ => rw [hy.bl] at ry; cases ry; simp only [eqD]; exact ⟨RcAt.bool_bool _ _, EqAt.bool_bool _ _, RcNeAt.bool_bool _ _⟩
      | int _ => rw [hy.int] at ry; obtain ⟨t2, rfl⟩ := ry; simp only [eqD]; exact ⟨RcAt.bool_int _ _ _, EqAt.bool_int _ _ _, RcNeAt.bool_int _ _ _⟩
      | str _ => rw [hy.str] at ry; obtain ⟨t2, rfl⟩ := ry; simp only [eqD]; exact ⟨RcAt.bool_str _ _ _, EqAt.bool_str _ _ _, RcNeAt.bool_str _ _ _⟩
      | tup ys => simp [okD] at oy
      | lst ys => simp [okD] at oy
      | ty _ => simp [okD] at oy
    | int _ =>
      rw [hx.int] at rx; obtain ⟨t1, rfl⟩ := rx
      cases y with
      | non => rw [hy.non] at ry; cases ry; simp only [eqD]; exact ⟨RcAt.int_none _ _, EqAt.int_none _ _, RcNeAt.int_none _ _⟩
      | bl _ => rw [hy.bl] at ry; cases ry; simp only [eqD]; exact ⟨RcAt.int_bool _ _ _, EqAt.int_bool _ _ _, RcNeAt.int_bool _ _ _⟩
      | int _ => rw [hy.int] at ry; obtain ⟨t2, rfl⟩ := ry; simp only [eqD]; exact ⟨RcAt.int_int _ _ _ _, EqAt.int_int _ _ _ _, RcNeAt.int_int _ _ _ _⟩
      | str _ => rw [hy.str] at ry; obtain ⟨t2, rfl⟩ := ry; simp only [eqD]; exact ⟨RcAt.int_str _ _ _ _, EqAt.int_str _ _ _ _, RcNeAt.int_str _ _ _ _⟩
      | tup ys => simp [okD] at oy
      | lst ys => simp [okD] at oy
      | ty _ => simp [okD] at oy
    | str _ =>
      rw [hx.str] at rx; obtain ⟨t1, rfl⟩ := rx
      cases y with
      | non => rw [hy.non] at ry; cases ry; simp only [eqD]; exact ⟨RcAt.str_none _ _, EqAt.str_none _ _, RcNeAt.str_none _ _⟩
      | bl _ => rw [hy.bl] at ry; cases ry; simp only [eqD]; exact ⟨RcAt.str_bool _ _ _, EqAt.str_bool _ _ _, RcNeAt.str_bool _ _ _⟩
      | int _ => rw [hy.int] at ry; obtain ⟨t2, rfl⟩ := ry; simp only [eqD]; exact ⟨RcAt.str_int _ _ _ _, EqAt.str_int _ _ _ _, RcNeAt.str_int _ _ _ _⟩
      | str _ => rw [hy.str] at ry; obtain ⟨t2, rfl⟩ := ry; simp only [eqD]; exact ⟨RcAt.str_str _ _ _ _, EqAt.str_str _ _ _ _, RcNeAt.str_str _ _ _ _⟩
      | tup ys => simp [okD] at oy
      | lst ys => simp [okD] at oy
      | ty _ => simp [okD] at oy
    | tup xs => simp [okD] at ox
    | lst xs => simp [okD] at ox
    | ty _ => simp [okD] at ox
  | succ n ih =>
    intro A x y vx vy u v hu ox oy hx hy rx ry
    have hu' : A.units < cLine := by omega
    cases x with
    | non =>
      rw [hx.non] at rx; cases rx
      cases y with
      | non => rw [hy.non] at ry; cases ry; simp only [eqD]; exact ⟨RcAt.none_none, EqAt.same _, RcNeAt.none_none⟩
      | bl _ => rw [hy.bl] at ry; cases ry; simp only [eqD]; exact ⟨RcAt.none_bool _, EqAt.none_bool _, RcNeAt.none_bool _⟩
      | int _ => rw [hy.int] at ry; obtain ⟨t2, rfl⟩ := ry; simp only [eqD]; exact ⟨RcAt.none_int _ _, EqAt.none_int _ _, RcNeAt.none_int _ _⟩
      | str _ => rw [hy.str] at ry; obtain ⟨t2, rfl⟩ := ry; simp only [eqD]; exact ⟨RcAt.none_str _ _, EqAt.none_str _ _, RcNeAt.none_str _ _⟩
      | tup ys => obtain ⟨a2, vs2, e2, q2, d2⟩ := hy.tup; subst e2; cases ry; obtain ⟨its2, r2, p2, z2⟩ := I.tuple q2; simp only [eqD]; exact ⟨RcAt.none_tuple p2 hu', EqAt.none_tuple p2 hu', RcNeAt.none_tuple p2 hu'⟩
      | lst ys fl =>
       cases fl with
       | true => simp [okD] at oy
       | false =>
        obtain ⟨a2, vs2, e2, q2, d2⟩ := hy; subst e2; cases ry; obtain ⟨its2, r2, p2, z2⟩ := I.list q2; simp only [eqD]; exact ⟨RcAt.none_list p2.isList hu', EqAt.none_list p2.isList hu', RcNeAt.none_list p2.isList hu'⟩
      | ty _ => simp [okD] at oy
    | bl _ =>
      rw [hx.bl] at rx; cases rx
      cases y with
      | non => rw [hy.non] at ry; cases ry; simp only [eqD]; exact ⟨RcAt.bool_none _, EqAt.bool_none _, RcNeAt.bool_none _⟩
      | bl _ => rw [hy.bl] at ry; cases ry; simp only [eqD]; exact ⟨RcAt.bool_bool _ _, EqAt.bool_bool _ _, RcNeAt.bool_bool _ _⟩
      | int _ => rw [hy.int] at ry; obtain ⟨t2, rfl⟩ := ry; simp only [eqD]; exact ⟨RcAt.bool_int _ _ _, EqAt.bool_int _ _ _, RcNeAt.bool_int _ _ _⟩
      | str _ => rw [hy.str] at ry; obtain ⟨t2, rfl⟩ := ry; simp only [eqD]; exact ⟨RcAt.bool_str _ _ _, EqAt.bool_str _ _ _, RcNeAt.bool_str _ _ _⟩
      | tup ys => obtain ⟨a2, vs2, e2, q2, d2⟩ := hy.tup; subst e2; cases ry; obtain ⟨its2, r2, p2, z2⟩ := I.tuple q2; simp only [eqD]; exact ⟨RcAt.bool_tuple _ p2 hu', EqAt.bool_tuple _ p2 hu', RcNeAt.bool_tuple _ p2 hu'⟩
      | lst ys fl =>
       cases fl with
       | true => simp [okD] at oy
       | false =>
        obtain ⟨a2, vs2, e2, q2, d2⟩ := hy; subst e2; cases ry; obtain ⟨its2, r2, p2, z2⟩ := I.list q2; simp only [eqD]; exact ⟨RcAt.bool_list _ p2.isList hu', EqAt.bool_list _ p2.isList hu', RcNeAt.bool_list _ p2.isList hu'⟩
      | ty _ => simp [okD] at oy
    | int _ =>
      rw [hx.int] at rx; obtain ⟨t1, rfl⟩ := rx
      cases y with
      | non => rw [hy.non] at ry; cases ry; simp only [eqD]; exact ⟨RcAt.int_none _ _, EqAt.int_none _ _, RcNeAt.int_none _ _⟩
      | bl _ => rw [hy.bl] at ry; cases ry; simp only [eqD]; exact ⟨RcAt.int_bool _ _ _, EqAt.int_bool _ _ _, RcNeAt.int_bool _ _ _⟩
      | int _ => rw [hy.int] at ry; obtain ⟨t2, rfl⟩ := ry; simp only [eqD]; exact ⟨RcAt.int_int _ _ _ _, EqAt.int_int _ _ _ _, RcNeAt.int_int _ _ _ _⟩
      | str _ => rw [hy.str] at ry; obtain ⟨t2, rfl⟩ := ry; simp only [eqD]; exact ⟨RcAt.int_str _ _ _ _, EqAt.int_str _ _ _ _, RcNeAt.int_str _ _ _ _⟩
      | tup ys => obtain ⟨a2, vs2, e2, q2, d2⟩ := hy.tup; subst e2; cases ry; obtain ⟨its2, r2, p2, z2⟩ := I.tuple q2; simp only [eqD]; exact ⟨RcAt.int_tuple _ _ p2 hu', EqAt.int_tuple _ _ p2 hu', RcNeAt.int_tuple _ _ p2 hu'⟩
      | lst ys fl =>
       cases fl with
       | true => simp [okD] at oy
       | false =>
        obtain ⟨a2, vs2, e2, q2, d2⟩ := hy; subst e2; cases ry; obtain ⟨its2, r2, p2, z2⟩ := I.list q2; simp only [eqD]; exact ⟨RcAt.int_list _ _ p2.isList hu', EqAt.int_list _ _ p2.isList hu', RcNeAt.int_list _ _ p2.isList hu'⟩
      | ty _ => simp [okD] at oy
    | str _ =>
      rw [hx.str] at rx; obtain ⟨t1, rfl⟩ := rx
      cases y with
      | non => rw [hy.non] at ry; cases ry; simp only [eqD]; exact ⟨RcAt.str_none _ _, EqAt.str_none _ _, RcNeAt.str_none _ _⟩
      | bl _ => rw [hy.bl] at ry; cases ry; simp only [eqD]; exact ⟨RcAt.str_bool _ _ _, EqAt.str_bool _ _ _, RcNeAt.str_bool _ _ _⟩
      | int _ => rw [hy.int] at ry; obtain ⟨t2, rfl⟩ := ry; simp only [eqD]; exact ⟨RcAt.str_int _ _ _ _, EqAt.str_int _ _ _ _, RcNeAt.str_int _ _ _ _⟩
      | str _ => rw [hy.str] at ry; obtain ⟨t2, rfl⟩ := ry; simp only [eqD]; exact ⟨RcAt.str_str _ _ _ _, EqAt.str_str _ _ _ _, RcNeAt.str_str _ _ _ _⟩
      | tup ys => obtain ⟨a2, vs2, e2, q2, d2⟩ := hy.tup; subst e2; cases ry; obtain ⟨its2, r2, p2, z2⟩ := I.tuple q2; simp only [eqD]; exact ⟨RcAt.str_tuple _ _ p2 hu', EqAt.str_tuple _ _ p2 hu', RcNeAt.str_tuple _ _ p2 hu'⟩
      | lst ys fl =>
       cases fl with
       | true => simp [okD] at oy
       | false =>
        obtain ⟨a2, vs2, e2, q2, d2⟩ := hy; subst e2; cases ry; obtain ⟨its2, r2, p2, z2⟩ := I.list q2; simp only [eqD]; exact ⟨RcAt.str_list _ _ p2.isList hu', EqAt.str_list _ _ p2.isList hu', RcNeAt.str_list _ _ p2.isList hu'⟩
      | ty _ => simp [okD] at oy
    | tup xs =>
      obtain ⟨a1, vs1, e1, q1, d1⟩ := hx.tup; subst e1; cases rx; obtain ⟨its1, r1, p1, z1⟩ := I.tuple q1
      cases y with
      | non => rw [hy.non] at ry; cases ry; simp only [eqD]; exact ⟨RcAt.tuple_none p1 hu', EqAt.tuple_none p1 hu', RcNeAt.tuple_none p1 hu'⟩
      | bl _ => rw [hy.bl] at ry; cases ry; simp only [eqD]; exact ⟨RcAt.tuple_bool _ p1 hu', EqAt.tuple_bool _ p1 hu', RcNeAt.tuple_bool _ p1 hu'⟩
      | int _ => rw [hy.int] at ry; obtain ⟨t2, rfl⟩ := ry; simp only [eqD]; exact ⟨RcAt.tuple_int _ _ p1 hu', EqAt.tuple_int _ _ p1 hu', RcNeAt.tuple_int _ _ p1 hu'⟩
      | str _ => rw [hy.str] at ry; obtain ⟨t2, rfl⟩ := ry; simp only [eqD]; exact ⟨RcAt.tuple_str _ _ p1 hu', EqAt.tuple_str _ _ p1 hu', RcNeAt.tuple_str _ _ p1 hu'⟩
      | tup ys =>
        obtain ⟨a2, vs2, e2, q2, d2⟩ := hy.tup; subst e2; cases ry; obtain ⟨its2, r2, p2, z2⟩ := I.tuple q2
        simp only [okD] at ox oy
        have l1 := r1.length
        have l2 := r2.length
        have m1 := d1.length
        have m2 := d2.length
        simp only [eqD]
        have rc : RcAt A s (.ref a1) (.ref a2) (eqDs xs ys) ∧ RcNeAt A s (.ref a1) (.ref a2) (!eqDs xs ys) := by
          have each : ∀ j (h1 : j < its1.toArray.size) (h2 : j < its2.toArray.size), EqAt A.in1 s its1.toArray[j] its2.toArray[j] (eqD (xs.getD j .non) (ys.getD j .non)) := fun j h1 h2 => ?_
          · have key := RcAt.tuples (A := A) (s := s) (e := fun j => eqD (xs.getD j .non) (ys.getD j .non)) p1 p2 hu' each
            have key2 := RcNeAt.tuples (A := A) (s := s) (e := fun j => eqD (xs.getD j .non) (ys.getD j .non)) p1 p2 hu' each
            have e : ((List.range (min its1.toArray.size its2.toArray.size)).all (fun j => eqD (xs.getD j .non) (ys.getD j .non)) && its1.toArray.size == its2.toArray.size) = eqDs xs ys := by
              rw [List.size_toArray, List.size_toArray]
              by_cases hl : xs.length = ys.length
              · rw [eqDs_all hl, show its1.length = xs.length by omega, show its2.length = xs.length by omega, Nat.min_self]; simp
              · rw [eqDs_len hl, show (its1.length == its2.length) = false by simp; omega, Bool.and_false]
            rw [e] at key key2
            exact ⟨key, key2⟩
          · have h1' : j < xs.length := by rw [List.size_toArray] at h1; omega
            have h2' : j < ys.length := by rw [List.size_toArray] at h2; omega
            have g1 := List.getElem?_eq_getElem h1'
            have g2 := List.getElem?_eq_getElem h2'
            obtain ⟨w1, hw1, dw1⟩ := d1.get g1
            obtain ⟨w2, hw2, dw2⟩ := d2.get g2
            obtain ⟨u1, hu1, ru1⟩ := r1.get hw1
            obtain ⟨u2, hu2, ru2⟩ := r2.get hw2
            rw [arr_get h1 hu1, arr_get h2 hu2, getD_some g1, getD_some g2]
            exact (ih A.in1 _ _ _ _ _ _ (by rw [in1_units]; omega) (List.all_eq_true.mp ox _ (List.getElem_mem h1')) (List.all_eq_true.mp oy _ (List.getElem_mem h2')) dw1.p dw2.p ru1 ru2).2.1
        refine ⟨rc.1, ?_, rc.2⟩
        by_cases ea : a1 = a2
        · subst ea
          have := I.tuple_inj q1 q2
          subst this
          rw [denL_inj I xs ys _ d1 d2, eqDs_refl n ys oy]
          exact EqAt.same _
        · exact EqAt.of_refs ea rc.1
      | lst ys fl =>
       cases fl with
       | true => simp [okD] at oy
       | false =>
        obtain ⟨a2, vs2, e2, q2, d2⟩ := hy; subst e2; cases ry; obtain ⟨its2, r2, p2, z2⟩ := I.list q2; simp only [eqD]; exact ⟨RcAt.tuple_list p1 p2.isList hu', EqAt.tuple_list p1 p2.isList hu', RcNeAt.tuple_list p1 p2.isList hu'⟩
      | ty _ => simp [okD] at oy
    | lst xs fl =>
     cases fl with
     | true => simp [okD] at ox
     | false =>
      obtain ⟨a1, vs1, e1, q1, d1⟩ := hx; subst e1; cases rx; obtain ⟨its1, r1, p1, z1⟩ := I.list q1
      cases y with
      | non => rw [hy.non] at ry; cases ry; simp only [eqD]; exact ⟨RcAt.list_none p1.isList hu', EqAt.list_none p1.isList hu', RcNeAt.list_none p1.isList hu'⟩
      | bl _ => rw [hy.bl] at ry; cases ry; simp only [eqD]; exact ⟨RcAt.list_bool _ p1.isList hu', EqAt.list_bool _ p1.isList hu', RcNeAt.list_bool _ p1.isList hu'⟩
      | int _ => rw [hy.int] at ry; obtain ⟨t2, rfl⟩ := ry; simp only [eqD]; exact ⟨RcAt.list_int _ _ p1.isList hu', EqAt.list_int _ _ p1.isList hu', RcNeAt.list_int _ _ p1.isList hu'⟩
      | str _ => rw [hy.str] at ry; obtain ⟨t2, rfl⟩ := ry; simp only [eqD]; exact ⟨RcAt.list_str _ _ p1.isList hu', EqAt.list_str _ _ p1.isList hu', RcNeAt.list_str _ _ p1.isList hu'⟩
      | tup ys => obtain ⟨a2, vs2, e2, q2, d2⟩ := hy.tup; subst e2; cases ry; obtain ⟨its2, r2, p2, z2⟩ := I.tuple q2; simp only [eqD]; exact ⟨RcAt.list_tuple p1.isList p2 hu', EqAt.list_tuple p1.isList p2 hu', RcNeAt.list_tuple p1.isList p2 hu'⟩
      | lst ys fl =>
       cases fl with
       | true => simp [okD] at oy
       | false =>
        obtain ⟨a2, vs2, e2, q2, d2⟩ := hy; subst e2; cases ry; obtain ⟨its2, r2, p2, z2⟩ := I.list q2
        simp only [okD] at ox oy
        have l1 := r1.length
        have l2 := r2.length
        have m1 := d1.length
        have m2 := d2.length
        simp only [eqD]
        have rc : RcAt A s (.ref a1) (.ref a2) (eqDs xs ys) ∧ RcNeAt A s (.ref a1) (.ref a2) (!eqDs xs ys) := by
          by_cases hl : xs.length = ys.length
          · have each : ∀ j (h1 : j < its1.toArray.size) (h2 : j < its2.toArray.size), EqAt A.in1 s its1.toArray[j] its2.toArray[j] (eqD (xs.getD j .non) (ys.getD j .non)) := fun j h1 h2 => ?_
            · have key := RcAt.lists (A := A) (s := s) (e := fun j => eqD (xs.getD j .non) (ys.getD j .non)) p1.isList p2.isList (by rw [List.size_toArray, List.size_toArray]; omega) hu' each
              have key2 := RcNeAt.lists (A := A) (s := s) (e := fun j => eqD (xs.getD j .non) (ys.getD j .non)) p1.isList p2.isList (by rw [List.size_toArray, List.size_toArray]; omega) hu' each
              have e : (List.range its1.toArray.size).all (fun j => eqD (xs.getD j .non) (ys.getD j .non)) = eqDs xs ys := by
                rw [List.size_toArray, eqDs_all hl, show its1.length = xs.length by omega]
              rw [e] at key key2
              exact ⟨key, key2⟩
            · have h1' : j < xs.length := by rw [List.size_toArray] at h1; omega
              have h2' : j < ys.length := by rw [List.size_toArray] at h2; omega
              have g1 := List.getElem?_eq_getElem h1'
              have g2 := List.getElem?_eq_getElem h2'
              obtain ⟨w1, hw1, dw1⟩ := d1.get g1
              obtain ⟨w2, hw2, dw2⟩ := d2.get g2
              obtain ⟨u1, hu1, ru1⟩ := r1.get hw1
              obtain ⟨u2, hu2, ru2⟩ := r2.get hw2
              rw [arr_get h1 hu1, arr_get h2 hu2, getD_some g1, getD_some g2]
              exact (ih A.in1 _ _ _ _ _ _ (by rw [in1_units]; omega) (List.all_eq_true.mp ox _ (List.getElem_mem h1')) (List.all_eq_true.mp oy _ (List.getElem_mem h2')) dw1.p dw2.p ru1 ru2).2.1
          · rw [eqDs_len hl]
            have hne : (its1.toArray.size != its2.toArray.size) = true := by rw [List.size_toArray, List.size_toArray]; simp; omega
            exact ⟨RcAt.lists_lengths p1.isList p2.isList hne hu', RcNeAt.lists_lengths p1.isList p2.isList hne hu'⟩
        refine ⟨rc.1, ?_, rc.2⟩
        by_cases ea : a1 = a2
        · subst ea
          have := I.list_inj q1 q2
          subst this
          rw [denL_inj I xs ys _ d1 d2, eqDs_refl n ys oy]
          exact EqAt.same _
        · exact EqAt.of_refs ea rc.1
      | ty _ => simp [okD] at oy
    | ty _ => simp [okD] at ox
end
def deep : Nat := 12
@[simp] def eqO (x y : D) : Option D := if okD deep x && okD deep y then some (.bl (eqD x y)) else none
@[simp] def neO (x y : D) : Option D := if okD deep x && okD deep y then some (.bl (!eqD x y)) else none
def rEqD (K : PySem.W.Frag) (neg : Bool) : R2 := fun x y H Q => ∃ N d1 d2, DenP K N H d1 x ∧ DenP K N H d2 y ∧ okD deep d1 = true ∧ okD deep d2 = true ∧ Q (.bl (if neg then !eqD d1 d2 else eqD d1 d2)) H
section
variable {X : Cx} {K : PySem.W.Frag} {M : Fb} {H0 : Hp} {a b : Expr} {f g : VE → Option D} {pos : Pos}
theorem op_eqD (hu : X.A.units + 64 < cLine) : OpR X (compareOp .Eq) (rEqD X.K false) := by
  intro pins s σ H x y v u Q I rx ry h
  obtain ⟨N, d1, d2, h1, h2, o1, o2, q⟩ := h
  exact (bothAt_D I deep X.A d1 d2 x y v u (by unfold deep; omega) o1 o2 h1 h2 rx ry).1 X.prog X.w X.xe _ ⟨.bl _, H, I, rfl, q⟩
theorem op_neD (hu : X.A.units + 64 < cLine) : OpR X (compareOp .NotEq) (rEqD X.K true) := by
  intro pins s σ H x y v u Q I rx ry h
  obtain ⟨N, d1, d2, h1, h2, o1, o2, q⟩ := h
  exact (bothAt_D I deep X.A d1 d2 x y v u (by unfold deep; omega) o1 o2 h1 h2 rx ry).2.2 X.prog X.w X.xe _ ⟨.bl _, H, I, rfl, q⟩
theorem r2_eq : R2D K (rEqD K false) eqO := by
  intro N H x y d1 d2 d Q nh h1 h2 e q
  unfold eqO at e
  split at e
  · next ho => rw [Bool.and_eq_true] at ho; cases e; exact ⟨N, d1, d2, h1, h2, ho.1, ho.2, q _ H (Same.refl H) den_bl⟩
  · cases e
theorem r2_ne : R2D K (rEqD K true) neO := by
  intro N H x y d1 d2 d Q nh h1 h2 e q
  unfold neO at e
  split at e
  · next ho => rw [Bool.and_eq_true] at ho; cases e; exact ⟨N, d1, d2, h1, h2, ho.1, ho.2, q _ H (Same.refl H) den_bl⟩
  · cases e
def inDs (x : D) (ys : List D) : Bool := ys.any fun y => eqD y x
@[simp] def inD (neg : Bool) (x y : D) : Option D := match y with
  | .lst ys => if okD deep x && ys.all (okD deep) then some (.bl (if neg then !inDs x ys else inDs x ys)) else none
  | .tup ys => if okD deep x && ys.all (okD deep) then some (.bl (if neg then !inDs x ys else inDs x ys)) else none
  | .str z => match x with
    | .str w => some (.bl (if neg then !(!(Builtin.Str.occurrences z w 0 z.length 1).isEmpty) else !(Builtin.Str.occurrences z w 0 z.length 1).isEmpty))
    | _ => none
  | _ => none
def rInD (K : PySem.W.Frag) (neg : Bool) : R2 := fun x y H Q => ∃ N d1 ys vs p, DenP K N H d1 x ∧ y = .ref p ∧ (SqL K H p vs ∨ SqT K H p vs) ∧ DenL K N H ys vs ∧ okD deep d1 = true ∧ ys.all (okD deep) = true ∧ Q (.bl (if neg then !inDs d1 ys else inDs d1 ys)) H
open Classical in
noncomputable def ansOf (K : PySem.W.Frag) (N : Fb) (H : Hp) (x : D) (u : Value) : Bool := decide (∃ d w, DenP K N H d w ∧ RelV w u ∧ eqD d x = true)
theorem ansOf_eq {pins : List (Addr × Obj)} {σ : St} {H : Hp} {s : Shared} (I : Inv X pins σ H s) {N : Fb} {x d : D} {w : V} {u : Value} (hd : DenP X.K N H d w) (r : RelV w u) : ansOf X.K N H x u = eqD d x := by
  classical
  unfold ansOf
  cases e : eqD d x with
  | true => exact @decide_eq_true _ (Classical.propDecidable _) ⟨d, w, hd, r, e⟩
  | false =>
    refine @decide_eq_false _ (Classical.propDecidable _) ?_
    rintro ⟨d', w', hd', r', e'⟩
    have := r'.inj r
    subst this
    have := den_inj I d' d _ hd' hd
    subst this
    rw [e] at e'; cases e'
theorem any_ans {pins : List (Addr × Obj)} {σ : St} {H : Hp} {s : Shared} (I : Inv X pins σ H s) {N : Fb} {x : D} : ∀ {ys : List D} {vs : List V} {us : List Value}, DenL X.K N H ys vs → Vals vs us → us.any (ansOf X.K N H x) = inDs x ys
  | [], _, _, h, r => by simp only [DenL] at h; subst h; cases r; rfl
  | y :: ys, _, _, h, r => by
    simp only [DenL] at h
    obtain ⟨v, t, e, hv, ht⟩ := h
    subst e
    cases r with
    | cons r1 r2 =>
      rw [List.any_cons, ansOf_eq I hv.p r1, any_ans I ht r2]
      rfl
theorem each_ans {pins : List (Addr × Obj)} {σ : St} {H : Hp} {s : Shared} (I : Inv X pins σ H s) {N : Fb} {A : Around} {x : D} {vx : V} {v : Value} (hu : A.units + deep < cLine) (ox : okD deep x = true) (hx : DenP X.K N H x vx) (rx : RelV vx v) {ys : List D} {vs : List V} {us : List Value} (h : DenL X.K N H ys vs) (r : Vals vs us) (oy : ys.all (okD deep) = true) :
    ∀ u ∈ us, SeqAt.EqAt A s u v (ansOf X.K N H x u) := by
  intro u hu'
  obtain ⟨j, hj⟩ := List.getElem?_of_mem hu'
  have hl := r.length
  have hj' : j < vs.length := by have := (List.getElem?_eq_some_iff.mp hj).1; omega
  have hv := List.getElem?_eq_getElem hj'
  obtain ⟨u', e1, r1⟩ := r.get hv
  rw [hj] at e1; cases e1
  obtain ⟨y, e2, hy⟩ := h.get' hv
  rw [ansOf_eq I hy.p r1]
  exact (bothAt_D I deep A y x _ _ _ _ hu (List.all_eq_true.mp oy y (List.mem_of_getElem? e2)) ox hy.p hx r1 rx).2.1
theorem op_inD (hu : X.A.units + 64 < cLine) : OpR X (compareOp .In) (rInD X.K false) := by
  intro pins s σ H x y v u Q I rx ry h
  obtain ⟨N, d1, ys, vs, p, h1, rfl, hq, hd, o1, o2, q⟩ := h
  cases ry
  have hu1 : X.A.in1.units + deep < cLine := by rw [in1_units]; unfold deep; omega
  rcases hq with hq | hq
  · obtain ⟨its, r, pl, hz⟩ := I.list hq
    refine SeqAt.in_listAt (ansOf X.K N H d1) pl.isList (fun w hw => each_ans I hu1 o1 h1 rx hd r o2 w (by simpa using hw)) ⟨.bl _, H, I, rfl, ?_⟩
    rw [show its.toArray.any (ansOf X.K N H d1) = its.any (ansOf X.K N H d1) by simp, any_ans I hd r]
    exact q
  · obtain ⟨its, r, pl, hz⟩ := I.tuple hq
    refine SeqAt.in_tupleAt (ansOf X.K N H d1) pl (fun w hw => each_ans I hu1 o1 h1 rx hd r o2 w (by simpa using hw)) ⟨.bl _, H, I, rfl, ?_⟩
    rw [show its.toArray.any (ansOf X.K N H d1) = its.any (ansOf X.K N H d1) by simp, any_ans I hd r]
    exact q
theorem op_ninD (hu : X.A.units + 64 < cLine) : OpR X (compareOp .NotIn) (rInD X.K true) := by
  intro pins s σ H x y v u Q I rx ry h
  obtain ⟨N, d1, ys, vs, p, h1, rfl, hq, hd, o1, o2, q⟩ := h
  cases ry
  have hu1 : X.A.in1.units + deep < cLine := by rw [in1_units]; unfold deep; omega
  rcases hq with hq | hq
  · obtain ⟨its, r, pl, hz⟩ := I.list hq
    refine SeqAt.notIn_listAt (ansOf X.K N H d1) pl.isList (fun w hw => each_ans I hu1 o1 h1 rx hd r o2 w (by simpa using hw)) ⟨.bl _, H, I, rfl, ?_⟩
    rw [show its.toArray.any (ansOf X.K N H d1) = its.any (ansOf X.K N H d1) by simp, any_ans I hd r]
    exact q
  · obtain ⟨its, r, pl, hz⟩ := I.tuple hq
    refine SeqAt.notIn_tupleAt (ansOf X.K N H d1) pl (fun w hw => each_ans I hu1 o1 h1 rx hd r o2 w (by simpa using hw)) ⟨.bl _, H, I, rfl, ?_⟩
    rw [show its.toArray.any (ansOf X.K N H d1) = its.any (ansOf X.K N H d1) by simp, any_ans I hd r]
    exact q
theorem r2_in : R2D K (fun x y H Q => rInD K false x y H Q ∨ ∃ i j, x = .str i ∧ y = .str j ∧ Q (.bl (!(Builtin.Str.occurrences j i 0 j.length 1).isEmpty)) H) (inD false) := by
  intro N H x y d1 d2 d Q nh h1 h2 e q
  unfold inD at e
  split at e
  · split at e
    · next ho => rw [Bool.and_eq_true] at ho; cases e; obtain ⟨a, vs, e1, q1, r1⟩ := h2; exact .inl ⟨N, d1, _, vs, a, h1, e1, .inl q1, r1, ho.1, ho.2, q _ H (Same.refl H) den_bl⟩
    · cases e
  · split at e
    · next ho => rw [Bool.and_eq_true] at ho; cases e; obtain ⟨a, vs, e1, q1, r1⟩ := h2.tup; exact .inl ⟨N, d1, _, vs, a, h1, e1, .inr q1, r1, ho.1, ho.2, q _ H (Same.refl H) den_bl⟩
    · cases e
  · split at e
    · cases e; exact .inr ⟨_, _, h1.str, h2.str, q _ H (Same.refl H) den_bl⟩
    · cases e
  · cases e
theorem r2_nin : R2D K (fun x y H Q => rInD K true x y H Q ∨ ∃ i j, x = .str i ∧ y = .str j ∧ Q (.bl (!(!(Builtin.Str.occurrences j i 0 j.length 1).isEmpty))) H) (inD true) := by
  intro N H x y d1 d2 d Q nh h1 h2 e q
  unfold inD at e
  split at e
  · split at e
    · next ho => rw [Bool.and_eq_true] at ho; cases e; obtain ⟨a, vs, e1, q1, r1⟩ := h2; exact .inl ⟨N, d1, _, vs, a, h1, e1, .inl q1, r1, ho.1, ho.2, q _ H (Same.refl H) den_bl⟩
    · cases e
  · split at e
    · next ho => rw [Bool.and_eq_true] at ho; cases e; obtain ⟨a, vs, e1, q1, r1⟩ := h2.tup; exact .inl ⟨N, d1, _, vs, a, h1, e1, .inr q1, r1, ho.1, ho.2, q _ H (Same.refl H) den_bl⟩
    · cases e
  · split at e
    · cases e; exact .inr ⟨_, _, h1.str, h2.str, q _ H (Same.refl H) den_bl⟩
    · cases e
  · cases e
@[simp] def ltDs (lt : D → D → Option Bool) : List D → List D → Option Bool
  | [], [] => some false
  | [], _ :: _ => some true
  | _ :: _, [] => some false
  | x :: xs, y :: ys => if okD deep x && okD deep y then (if eqD x y then ltDs lt xs ys else lt x y) else none
@[simp] def ltN : Nat → D → D → Option Bool
  | _, .int i, .int j => some (decide (i < j))
  | _, .str a, .str b => some (decide (a.cps.toList < b.cps.toList))
  | n + 1, .tup xs, .tup ys => ltDs (ltN n) xs ys
  | n + 1, .lst xs false, .lst ys false => ltDs (ltN n) xs ys
  | _, _, _ => none
@[simp] def ltO (x y : D) : Option D := (ltN 6 x y).map D.bl
def rLtD (K : PySem.W.Frag) : R2 := fun x y H Q => ∃ N d1 d2 b, DenP K N H d1 x ∧ DenP K N H d2 y ∧ ltN 6 d1 d2 = some b ∧ Q (.bl b) H
theorem ltAt_D {pins : List (Addr × Obj)} {σ : St} {H : Hp} {s : Shared} (I : Inv X pins σ H s) {N : Fb} : ∀ (n : Nat) (A : Around) (x y : D) (vx vy : V) (u v : Value) (b : Bool), A.units + n + deep < cLine → ltN n x y = some b → DenP X.K N H x vx → DenP X.K N H y vy → RelV vx u → RelV vy v →
    ∀ (prog : Program) (wo : World) (E Q : Value → Shared → Prop), Q (.bool b) s → wpAny (model prog wo) A (richCompare .Lt u v) Q E s := by
  intro n
  induction n with
  | zero =>
    intro A x y vx vy u v b hu h hx hy rx ry prog wo E Q q
    unfold ltN at h
    split at h
    · cases h; rw [hx.int] at rx; rw [hy.int] at ry; obtain ⟨t, rfl⟩ := rx; obtain ⟨t', rfl⟩ := ry; exact HT.rcLt_int A s _ _ _ _ prog wo E Q q
    · cases h; rw [hx.str] at rx; rw [hy.str] at ry; obtain ⟨t, rfl⟩ := rx; obtain ⟨t', rfl⟩ := ry; exact (PyProof.Rows.lt_str q : wpAny (model prog wo) A (compareOp .Lt _ _) Q E s)
    · next h0 => cases h0
    · next h0 => cases h0
    · cases h
  | succ n ih =>
    intro A x y vx vy u v b hu h hx hy rx ry prog wo E Q q
    have lists : ∀ (xs ys : List D) (vs1 vs2 : List V) (us1 us2 : List Value), ltDs (ltN n) xs ys = some b → DenL X.K N H xs vs1 → DenL X.K N H ys vs2 → Vals vs1 us1 → Vals vs2 us2 → LtAt A.in1 s us1 us2 b := by
      intro xs
      induction xs with
      | nil =>
        intro ys vs1 vs2 us1 us2 h d1 d2 r1 r2
        simp only [DenL] at d1; subst d1; cases r1
        cases ys with
        | nil => simp only [DenL] at d2; subst d2; cases r2; cases h; exact .nn
        | cons y ys => simp only [DenL] at d2; obtain ⟨w, t, e, _, _⟩ := d2; subst e; cases r2; cases h; exact .nc
      | cons x xs ihx =>
        intro ys vs1 vs2 us1 us2 h d1 d2 r1 r2
        simp only [DenL] at d1; obtain ⟨w1, t1, e1, dw1, dt1⟩ := d1; subst e1
        cases r1 with
        | cons rw1 rt1 =>
          cases ys with
          | nil => simp only [DenL] at d2; subst d2; cases r2; cases h; exact .cn
          | cons y ys =>
            simp only [DenL] at d2; obtain ⟨w2, t2, e2, dw2, dt2⟩ := d2; subst e2
            cases r2 with
            | cons rw2 rt2 =>
              simp only [ltDs] at h
              split at h
              · next ho =>
                rw [Bool.and_eq_true] at ho
                have he := (bothAt_D I deep A.in1 x y _ _ _ _ (by rw [in1_units]; omega) ho.1 ho.2 dw1.p dw2.p rw1 rw2).2.1
                split at h
                · next e => rw [e] at he; exact .eq he (ihx ys _ _ _ _ h dt1 dt2 rt1 rt2)
                · next e =>
                  rw [Bool.not_eq_true] at e
                  rw [e] at he
                  exact .ne he fun prog wo E Q q => ih A.in1 x y _ _ _ _ b (by rw [in1_units]; omega) h dw1.p dw2.p rw1 rw2 prog wo E Q q
              · cases h
    unfold ltN at h
    split at h
    · cases h; rw [hx.int] at rx; rw [hy.int] at ry; obtain ⟨t, rfl⟩ := rx; obtain ⟨t', rfl⟩ := ry; exact HT.rcLt_int A s _ _ _ _ prog wo E Q q
    · cases h; rw [hx.str] at rx; rw [hy.str] at ry; obtain ⟨t, rfl⟩ := rx; obtain ⟨t', rfl⟩ := ry; exact (PyProof.Rows.lt_str q : wpAny (model prog wo) A (compareOp .Lt _ _) Q E s)
    · next m xs ys e0 =>
      cases e0
      obtain ⟨a1, vs1, e1, q1, d1⟩ := hx.tup
      obtain ⟨a2, vs2, e2, q2, d2⟩ := hy.tup
      subst e1 e2
      cases rx
      cases ry
      obtain ⟨its1, r1, p1, _⟩ := I.tuple q1
      obtain ⟨its2, r2, p2, _⟩ := I.tuple q2
      exact rcLt_tup p1 p2 (by simpa using lists xs ys _ _ _ _ h d1 d2 r1 r2) (by omega) q
    · next m xs ys e0 =>
      cases e0
      obtain ⟨a1, vs1, e1, q1, d1⟩ := hx
      obtain ⟨a2, vs2, e2, q2, d2⟩ := hy
      subst e1 e2
      cases rx
      cases ry
      obtain ⟨its1, r1, ⟨⟨cls, dd, data, sl⟩, n1, ho1, hc1, hdd1, hd1⟩, _⟩ := I.list q1
      obtain ⟨its2, r2, ⟨⟨cls2, dd2, data2, sl2⟩, n2, ho2, hc2, hdd2, hd2⟩, _⟩ := I.list q2
      simp only at hc1 hd1 hc2 hd2
      subst hc1 hd1 hc2 hd2
      exact rcLt_lst ho1 ho2 (by simpa using lists xs ys _ _ _ _ h d1 d2 r1 r2) (by omega) q
    · cases h
theorem op_ltD (hu : X.A.units + 64 < cLine) : OpR X (compareOp .Lt) (rLtD X.K) := by
  intro pins s σ H x y v u Q I rx ry h
  obtain ⟨N, d1, d2, b, h1, h2, hb, q⟩ := h
  have fin : EP X pins σ Q (.bool b) s := ⟨.bl b, H, I, rfl, q⟩
  exact ltAt_D I 6 X.A d1 d2 x y v u b (by unfold deep; omega) hb h1 h2 rx ry X.prog X.w X.xe _ fin
theorem r2_lt : R2D K (rLtD K) ltO := by
  intro N H x y d1 d2 d Q nh h1 h2 e q
  unfold ltO at e
  cases hl : ltN 6 d1 d2 with
  | none => rw [hl] at e; cases e
  | some b => rw [hl] at e; cases e; exact ⟨N, d1, d2, b, h1, h2, hl, q _ H (Same.refl H) den_bl⟩
end
end L2
set_option Elab.async false
set_option linter.all false
set_option maxRecDepth 100000
namespace L2
open PySem PySem.Spec PyProof.Rows
section
variable {K : PySem.W.Frag} {N : Fb} {H : Hp}
theorem Paired.one' {α β : Type} {F : α → β → Prop} {x : α} {vs : List β} (h : Paired F [x] vs) : ∃ v, vs = [v] ∧ F x v := by
  cases h with
  | cons r t => cases t; exact ⟨_, rfl, r⟩
theorem Paired.two' {α β : Type} {F : α → β → Prop} {x y : α} {vs : List β} (h : Paired F [x, y] vs) : ∃ v w, vs = [v, w] ∧ F x v ∧ F y w := by
  cases h with
  | cons r t =>
    obtain ⟨w, e, q⟩ := Paired.one' t
    subst e
    exact ⟨_, w, rfl, r, q⟩
@[simp] def lenD : List D → Option D
  | [.lst xs] => some (.int xs.length)
  | [.tup xs] => some (.int xs.length)
  | [.str x] => if x.length ≤ sizeLine then some (.int x.length) else none
  | _ => none
theorem rc_len : RcD K (fun xs H Q => ∃ x n, xs = [x] ∧ LenV K x H n ∧ Q (.int n) H) lenD := by
  intro N H vs ds d Q nh h e q
  unfold lenD at e
  split at e
  · cases e
    obtain ⟨v, rfl, hv⟩ := Paired.one' h
    obtain ⟨a, ws, e1, q1, r1⟩ := hv
    subst e1
    exact ⟨.ref a, _, rfl, .inl ⟨ws, q1, rfl⟩, by rw [← r1.length]; exact q _ H (Same.refl H) den_int⟩
  · cases e
    obtain ⟨v, rfl, hv⟩ := Paired.one' h
    obtain ⟨a, ws, e1, q1, r1⟩ := hv.tup
    subst e1
    exact ⟨.ref a, _, rfl, .inr ⟨ws, q1, rfl⟩, by rw [← r1.length]; exact q _ H (Same.refl H) den_int⟩
  · split at e
    · next hz =>
      cases e
      obtain ⟨v, rfl, hv⟩ := Paired.one' h
      exact ⟨v, _, rfl, by rw [hv.str]; exact ⟨hz, rfl⟩, q _ H (Same.refl H) den_int⟩
    · cases e
  · cases e
@[simp] def lstD : List D → Option (List D)
  | [.lst xs] => some xs
  | [.tup xs] => some xs
  | _ => none
theorem rc_list : RcF K (fun xs H Q => ∃ p ys, xs = [.ref p] ∧ (SqL K H p ys ∨ SqT K H p ys) ∧ ∀ l, H l = none → Q (.ref l) (upd H l (.lst ys))) lstD := by
  intro N H vs ds xs Q nh h e q
  unfold lstD at e
  split at e
  · cases e
    obtain ⟨v, rfl, hv⟩ := Paired.one' h
    obtain ⟨a, ws, e1, q1, r1⟩ := hv
    subst e1
    exact ⟨a, ws, rfl, .inl q1, fun l hl => q ws l hl r1⟩
  · cases e
    obtain ⟨v, rfl, hv⟩ := Paired.one' h
    obtain ⟨a, ws, e1, q1, r1⟩ := hv.tup
    subst e1
    exact ⟨a, ws, rfl, .inr q1, fun l hl => q ws l hl r1⟩
  · cases e
@[simp] def tupD : List D → Option D
  | [.lst xs] => some (.tup xs)
  | [.tup xs] => some (.tup xs)
  | _ => none
theorem rc_tuple : RcD K (fun xs H Q => ∃ p ys, xs = [.ref p] ∧ ((SqL K H p ys ∧ ∀ l, H l = none → Q (.ref l) (upd H l (.tup ys))) ∨ (SqT K H p ys ∧ Q (.ref p) H))) tupD := by
  intro N H vs ds d Q nh h e q
  unfold tupD at e
  split at e
  · cases e
    obtain ⟨v, rfl, hv⟩ := Paired.one' h
    obtain ⟨a, ws, e1, q1, r1⟩ := hv
    subst e1
    exact ⟨a, ws, rfl, .inl ⟨q1, fun l hl => q _ _ (same_new hl) (den_newT hl r1)⟩⟩
  · cases e
    obtain ⟨v, rfl, hv⟩ := Paired.one' h
    obtain ⟨a, ws, e1, q1, r1⟩ := hv.tup
    subst e1
    exact ⟨a, ws, rfl, .inr ⟨q1, q _ _ (Same.refl H) (by simp only [Den]; exact ⟨a, ws, rfl, q1, r1⟩)⟩⟩
  · cases e
def asBs : List D → Option (List Bool)
  | [] => some []
  | .bl b :: r => (asBs r).map (b :: ·)
  | _ => none
theorem asBs_map : ∀ {xs : List D} {bs : List Bool}, asBs xs = some bs → xs = bs.map D.bl
  | [], _, e => by cases e; rfl
  | .bl b :: r, _, e => by
    simp only [asBs] at e
    cases h : asBs r with
    | none => rw [h] at e; cases e
    | some bs => rw [h] at e; cases e; rw [asBs_map h]; rfl
  | .non :: _, _, e => nomatch e
  | .int _ :: _, _, e => nomatch e
  | .str _ :: _, _, e => nomatch e
  | .ty _ :: _, _, e => nomatch e
  | .tup _ :: _, _, e => nomatch e
  | .lst _ _ :: _, _, e => nomatch e
theorem denL_bls : ∀ {bs : List Bool} {vs : List V}, DenL K N H (bs.map D.bl) vs → vs = bs.map V.bl
  | [], _, h => by simpa only [List.map_nil, DenL] using h
  | b :: bs, _, h => by
    simp only [List.map_cons, DenL, Den] at h
    obtain ⟨v, r, e, hv, t⟩ := h
    subst e hv
    rw [denL_bls t]; rfl
@[simp] def allD : List D → Option D
  | [.lst xs] => (asBs xs).map fun bs => .bl (bs.all id)
  | _ => none
@[simp] def anyD : List D → Option D
  | [.lst xs] => (asBs xs).map fun bs => .bl (bs.any id)
  | _ => none
theorem rc_all : RcD K (fun xs H Q => ∃ (a : Addr) (bs : List Bool), xs = [.ref a] ∧ SqL K H a (bs.map V.bl) ∧ Q (.bl (bs.all id)) H) allD := by
  intro N H vs ds d Q nh h e q
  unfold allD at e
  split at e
  · next xs =>
    cases hb : asBs xs with
    | none => rw [hb] at e; cases e
    | some bs =>
      rw [hb] at e; cases e
      obtain ⟨v, rfl, hv⟩ := Paired.one' h
      obtain ⟨a, ws, e1, q1, r1⟩ := hv
      subst e1
      rw [asBs_map hb] at r1
      rw [denL_bls r1] at q1
      exact ⟨a, bs, rfl, q1, q _ H (Same.refl H) den_bl⟩
  · cases e
@[simp] def max2D : List D → Option D
  | [.int i, .int j] => some (.int (if j > i then j else i))
  | _ => none
@[simp] def min2D : List D → Option D
  | [.int i, .int j] => some (.int (if j < i then j else i))
  | _ => none
@[simp] def absD : List D → Option D
  | [.int i] => some (.int (if i < 0 then -i else i))
  | _ => none
@[simp] def strI : List D → Option D
  | [.int i] => if i.natAbs.log2 < 1920 then some (.str (toString i)) else none
  | _ => none
@[simp] def intD : List D → Option D
  | [.int i] => some (.int i)
  | [.bl k] => some (.int (if k then 1 else 0))
  | _ => none
def asIs : List D → Option (List Int)
  | [] => some []
  | .int b :: r => (asIs r).map (b :: ·)
  | _ => none
theorem asIs_ints : ∀ (ns : List Int), asIs (ns.map D.int) = some ns
  | [] => rfl
  | n :: ns => by simp only [List.map_cons, asIs, asIs_ints ns]; rfl
end
section
variable {X : Cx}
end
def minL : List Int → Option Int
  | [] => none
  | x :: xs => some (xs.foldl (fun m y => if y < m then y else m) x)
def maxL : List Int → Option Int
  | [] => none
  | x :: xs => some (xs.foldl (fun m y => if y > m then y else m) x)
section
variable {K : PySem.W.Frag}
@[simp] def sumD : List D → Option D
  | [.lst xs] => (asIs xs).map fun ns => .int ns.sum
  | _ => none
@[simp] def min1D : List D → Option D
  | [.lst xs] => ((asIs xs).bind minL).map D.int
  | _ => none
@[simp] def max1D : List D → Option D
  | [.lst xs] => ((asIs xs).bind maxL).map D.int
  | _ => none
@[simp] def tyD : D → Option String
  | .non => some "NoneType"
  | .bl _ => some "bool"
  | .int _ => some "int"
  | .str _ => some "str"
  | .tup _ => some "tuple"
  | .lst _ => some "list"
  | .lst _ true => none
  | .ty _ => none
def tyLe (t n : String) : Bool := t == n || (t == "bool" && n == "int")
end
def tyNames : List String := ["NoneType", "bool", "int", "str", "tuple", "list"]
theorem kit_all (K : PySem.W.Frag) : ∀ t ∈ tyNames, ∀ n ∈ tyNames, PySem.W.kitOne K (.type t) (.type n) = some (tyLe t n) := by
  intro t ht n hn
  simp only [tyNames, List.mem_cons, List.not_mem_nil, or_false] at ht hn
  rcases ht with rfl | rfl | rfl | rfl | rfl | rfl <;> rcases hn with rfl | rfl | rfl | rfl | rfl | rfl <;> with_unfolding_all rfl
theorem kit_any (K : PySem.W.Frag) {t : String} (ht : t ∈ tyNames) : ∀ (ns : List String), (∀ n ∈ ns, n ∈ tyNames) → PySem.W.kitAny K (.type t) (ns.map Value.type) = some (ns.any fun n => tyLe t n)
  | [], _ => rfl
  | n :: ns, h => by
    have h1 := kit_all K t ht n (h n List.mem_cons_self)
    have h2 := kit_any K ht ns fun m hm => h m (List.mem_cons_of_mem _ hm)
    simp only [List.map_cons, PySem.W.kitAny, h1, h2, List.any_cons]
    cases tyLe t n <;> rfl
theorem tyD_mem {d : D} {t : String} (h : tyD d = some t) : t ∈ tyNames := by
  cases d with
  | lst xs fl => cases fl <;> simp [tyD] at h; subst h; simp [tyNames]
  | _ => simp [tyD] at h <;> subst h <;> simp [tyNames]
section
variable {X : Cx} {K : PySem.W.Frag}
theorem kitx_D {pins : List (Addr × Obj)} {σ : St} {H : Hp} {s : Shared} (I : Inv X pins σ H s) {N : Fb} {d : D} {x : V} {u : Value} {t : String} (hx : DenP X.K N H d x) (rx : RelV x u) (ht : tyD d = some t) :
    ∃ HP : Heap → Prop, PySem.W.KitX X.K u (.type t) HP ∧ HP s.heap ∧ u ≠ .builtin "__main__.__loader__#opaque" := by
  cases d with
  | non => cases ht; rw [hx.non] at rx; cases rx; exact ⟨_, PySem.W.kitx_none, trivial, fun z => nomatch z⟩
  | bl b => cases ht; rw [hx.bl] at rx; cases rx; exact ⟨_, PySem.W.kitx_bool, trivial, fun z => nomatch z⟩
  | int b => cases ht; rw [hx.int] at rx; obtain ⟨t, rfl⟩ := rx; exact ⟨_, PySem.W.kitx_int, trivial, fun z => nomatch z⟩
  | str b => cases ht; rw [hx.str] at rx; obtain ⟨t, rfl⟩ := rx; exact ⟨_, PySem.W.kitx_str, trivial, fun z => nomatch z⟩
  | ty n => cases ht
  | tup xs =>
    cases ht
    obtain ⟨a, vs, e, q, r⟩ := hx.tup
    subst e; cases rx
    obtain ⟨its, _, ⟨o, h1, h2, _⟩, _⟩ := I.tuple q
    exact ⟨_, PySem.W.kitx_tuple, ⟨o, h1, h2⟩, fun z => nomatch z⟩
  | lst xs fl =>
    cases fl with
    | true => cases ht
    | false =>
    cases ht
    obtain ⟨a, vs, e, q, r⟩ := hx
    subst e; cases rx
    obtain ⟨its, _, ⟨o, n, h1, h2, _⟩, _⟩ := I.list q
    exact ⟨_, PySem.W.kitx_list, ⟨o, h1, h2⟩, fun z => nomatch z⟩
@[simp] def tysOf : D → Option (List String)
  | .ty n => some [n]
  | .tup xs => tysL xs
  | _ => none
where tysL : List D → Option (List String)
  | [] => some []
  | .ty n :: r => (tysL r).map (n :: ·)
  | _ => none
theorem tysL_map : ∀ {xs : List D} {ns : List String}, tysOf.tysL xs = some ns → xs = ns.map D.ty
  | [], _, e => by cases e; rfl
  | .ty b :: r, _, e => by
    simp only [tysOf.tysL] at e
    cases h : tysOf.tysL r with
    | none => rw [h] at e; cases e
    | some bs => rw [h] at e; cases e; rw [tysL_map h]; rfl
  | .non :: _, _, e => nomatch e
  | .bl _ :: _, _, e => nomatch e
  | .int _ :: _, _, e => nomatch e
  | .str _ :: _, _, e => nomatch e
  | .tup _ :: _, _, e => nomatch e
  | .lst _ _ :: _, _, e => nomatch e
@[simp] def isD : List D → Option D
  | [x, c] => (tysOf c).bind fun ns => if (∀ n ∈ ns, n ∈ tyNames) then (tyD x).map fun t => .bl (ns.any fun n => tyLe t n) else none
  | _ => none
def rIsD (K : PySem.W.Frag) : List V → Hp → VK → Prop := fun vs H Q => ∃ N d c x y ns t, vs = [x, y] ∧ DenP K N H d x ∧ DenP K N H c y ∧ tysOf c = some ns ∧ (∀ n ∈ ns, n ∈ tyNames) ∧ tyD d = some t ∧ Q (.bl (ns.any fun n => tyLe t n)) H
theorem denL_tys {N : Fb} {H : Hp} : ∀ {ns : List String} {vs : List V}, DenL K N H (ns.map D.ty) vs → vs = ns.map V.ty
  | [], _, h => by simpa only [List.map_nil, DenL] using h
  | b :: bs, _, h => by
    simp only [List.map_cons, DenL, Den] at h
    obtain ⟨v, r, e, hv, t⟩ := h
    subst e hv
    rw [denL_tys t]; rfl
theorem vals_tys : ∀ {ns : List String} {us : List Value}, Vals (ns.map V.ty) us → us = ns.map Value.type
  | [], _, r => by cases r; rfl
  | n :: ns, _, r => by
    cases r with
    | cons r1 r2 => cases r1; rw [vals_tys r2]; rfl
theorem call_isD : CallR X (.builtin "isinstance") (rIsD X.K) := by
  intro pins s σ H xs us Q I r h
  obtain ⟨N, d, c, x, y, ns, t, rfl, hx, hy, hns, hin, ht, q⟩ := h
  obtain ⟨u, w', rfl, rx, ry⟩ := vals2 r
  obtain ⟨HP, Z, p, hne⟩ := kitx_D I hx rx ht
  cases c with
  | ty n =>
    cases hns
    rw [hy.ty] at ry; cases ry
    refine PySem.W.kia_one Z I.kIn p (kit_all X.K t (tyD_mem ht) n (hin n (by simp))) hne fun tk => ⟨.bl _, H, I.tok tk, rfl, ?_⟩
    simpa using q
  | tup xs =>
    have e := tysL_map hns
    subst e
    obtain ⟨a, vs, e, sq, dl⟩ := hy.tup
    subst e; cases ry
    obtain ⟨its, rv, ⟨⟨cls, dd, data, sl⟩, h1, h2, n, h3⟩, _⟩ := I.tuple sq
    simp only at h2 h3
    subst h2 h3
    have e2 := denL_tys dl
    subst e2
    have e3 := vals_tys rv
    subst e3
    exact PySem.W.kia_tup Z I.kIn p h1 (kit_any X.K (tyD_mem ht) ns hin) hne fun tk => ⟨.bl _, H, I.tok tk, rfl, q⟩
  | non => cases hns
  | bl _ => cases hns
  | int _ => cases hns
  | str _ => cases hns
  | lst _ => cases hns
theorem rc_is : RcD K (rIsD K) isD := by
  intro N H vs ds d Q nh h e q
  unfold isD at e
  split at e
  · next x c =>
    cases hc : tysOf c with
    | none => rw [hc] at e; cases e
    | some ns =>
      rw [hc] at e
      simp only [Option.bind] at e
      split at e
      · next hin =>
        cases ht : tyD x with
        | none => rw [ht] at e; cases e
        | some t =>
          rw [ht] at e; cases e
          obtain ⟨v, w, rfl, hv, hw⟩ := Paired.two' h
          exact ⟨N, x, c, v, w, ns, t, rfl, hv, hw, hc, hin, ht, q _ H (Same.refl H) den_bl⟩
      · cases e
  · cases e
theorem ve_tyn {M : Fb} {H0 : Hp} {x : Str} {n : String} {pos : Pos} (hg : Gl X x) (hm : X.mg x = none) (hv : bootBuiltins x = some (.type n)) (hn : x ≠ "__name__" := by decide) (hd : (x == ("__debug__" : Str)) = false := by decide) : PE X (.Name x pos) (tD K M H0 fun _ => some (.ty n)) :=
  ve_c (pe_bltn hg hm hv (v := .ty n) rfl hn hd) fun _ _ => by simp only [Den]
theorem j_ve_tyn {M : Fb} {H0 : Hp} {x : Str} {n : String} {pos : Pos} (hg : Gl X x) (hm : X.mg x = none) (hv : bootBuiltins x = some (.type n)) (hn : x ≠ "__name__" := by decide) (hd : (x == ("__debug__" : Str)) = false := by decide) : JE X (.Name x pos) (tD K M H0 fun _ => some (.ty n)) := ⟨ve_tyn hg hm hv hn hd⟩
end
end L2
set_option Elab.async false
set_option linter.all false
set_option maxRecDepth 100000
namespace L2
open PySem PySem.Spec PyProof.Rows
section
variable {X : Cx} {K : PySem.W.Frag} {M : Fb} {H0 : Hp} {a b c e tg iter : Expr} {es : List Expr} {f g h : VE → Option D} {fa : VE → Option (List Sl)} {pos : Pos}
theorem vv (i : Nat) {x : Str} (hN : X.N[i]? = some x := by rfl) (hv : Vis X.env.scope x := by first | exact Or.inl rfl | exact Or.inr (Or.inl rfl) | exact Or.inr (Or.inr rfl)) (hd : (x == ("__debug__" : Str)) = false := by decide) (hcd : (x == ("__classdict__" : Str)) = false := by decide) :
    PE X (.Name x pos) (tD K M H0 fun ρ => rdV ρ i) := ve_var hN hv hd hcd
theorem j_vv (i : Nat) {x : Str} (hN : X.N[i]? = some x := by rfl) (hv : Vis X.env.scope x := by first | exact Or.inl rfl | exact Or.inr (Or.inl rfl) | exact Or.inr (Or.inr rfl)) (hd : (x == ("__debug__" : Str)) = false := by decide) (hcd : (x == ("__classdict__" : Str)) = false := by decide) : JE X (.Name x pos) (tD K M H0 fun ρ => rdV ρ i) := ⟨vv i hN hv hd hcd⟩
theorem vp (i : Nat) {x : Str} (hN : X.N[i]? = some x := by rfl) (hv : Vis X.env.scope x := by first | exact Or.inl rfl | exact Or.inr (Or.inl rfl) | exact Or.inr (Or.inr rfl)) (hd : (x == ("__debug__" : Str)) = false := by decide) (hcd : (x == ("__classdict__" : Str)) = false := by decide) :
    PE X (.Name x pos) (tP K M H0 fun ρ => rdP ρ i) := vp_var hN hv hd hcd
theorem j_vp (i : Nat) {x : Str} (hN : X.N[i]? = some x := by rfl) (hv : Vis X.env.scope x := by first | exact Or.inl rfl | exact Or.inr (Or.inl rfl) | exact Or.inr (Or.inr rfl)) (hd : (x == ("__debug__" : Str)) = false := by decide) (hcd : (x == ("__classdict__" : Str)) = false := by decide) : JE X (.Name x pos) (tP K M H0 fun ρ => rdP ρ i) := ⟨vp i hN hv hd hcd⟩
theorem vq (i : Nat) {x : Str} (hN : X.N[i]? = some x := by rfl) (hv : Vis X.env.scope x := by first | exact Or.inl rfl | exact Or.inr (Or.inl rfl) | exact Or.inr (Or.inr rfl)) (hd : (x == ("__debug__" : Str)) = false := by decide) (hcd : (x == ("__classdict__" : Str)) = false := by decide) :
    PE X (.Name x pos) (tQ K M H0 fun ρ => rdQ ρ i) := vq_var hN hv hd hcd
theorem j_vq (i : Nat) {x : Str} (hN : X.N[i]? = some x := by rfl) (hv : Vis X.env.scope x := by first | exact Or.inl rfl | exact Or.inr (Or.inl rfl) | exact Or.inr (Or.inr rfl)) (hd : (x == ("__debug__" : Str)) = false := by decide) (hcd : (x == ("__classdict__" : Str)) = false := by decide) : JE X (.Name x pos) (tQ K M H0 fun ρ => rdQ ρ i) := ⟨vq i hN hv hd hcd⟩
theorem va (i : Nat) {x : Str} (hN : X.N[i]? = some x := by rfl) (hv : Vis X.env.scope x := by first | exact Or.inl rfl | exact Or.inr (Or.inl rfl) | exact Or.inr (Or.inr rfl)) (hd : (x == ("__debug__" : Str)) = false := by decide) (hcd : (x == ("__classdict__" : Str)) = false := by decide) :
    PE X (.Name x pos) (tS1 K M H0 fun ρ => rdA ρ i) := va_var hN hv hd hcd
theorem j_va (i : Nat) {x : Str} (hN : X.N[i]? = some x := by rfl) (hv : Vis X.env.scope x := by first | exact Or.inl rfl | exact Or.inr (Or.inl rfl) | exact Or.inr (Or.inr rfl)) (hd : (x == ("__debug__" : Str)) = false := by decide) (hcd : (x == ("__classdict__" : Str)) = false := by decide) : JE X (.Name x pos) (tS1 K M H0 fun ρ => rdA ρ i) := ⟨va i hN hv hd hcd⟩
theorem vret (i : Nat) {x : Str} {vpos : Pos} (hN : X.N[i]? = some x := by rfl) (hv : Vis X.env.scope x := by first | exact Or.inl rfl | exact Or.inr (Or.inl rfl) | exact Or.inr (Or.inr rfl)) (hd : (x == ("__debug__" : Str)) = false := by decide) (hcd : (x == ("__classdict__" : Str)) = false := by decide) :
    PS X (.Return (some (.Name x vpos)) pos) (tS K M H0 fun ρ => retF (rdO ρ i)) := vs_retO hN hv hd hcd
theorem j_vret (i : Nat) {x : Str} {vpos : Pos} (hN : X.N[i]? = some x := by rfl) (hv : Vis X.env.scope x := by first | exact Or.inl rfl | exact Or.inr (Or.inl rfl) | exact Or.inr (Or.inr rfl)) (hd : (x == ("__debug__" : Str)) = false := by decide) (hcd : (x == ("__classdict__" : Str)) = false := by decide) : JS X (.Return (some (.Name x vpos)) pos) (tS K M H0 fun ρ => retF (rdO ρ i)) := ⟨vret i hN hv hd hcd⟩
theorem vc_eq (hu : X.A.units + 64 < cLine) (ha : PE X a (tP X.K M H0 f)) (hb : PE X b (tP X.K M H0 g)) : PE X (.Compare a [.Eq] [b] pos) (tD X.K M H0 (bin2 eqO f g)) := ve_cmp (op_eqD hu) r2_eq ha hb (nobehind _ (by decide) (by decide))
theorem j_vc_eq (hu : X.A.units + 64 < cLine) (ha : JE X a (tP X.K M H0 f)) (hb : JE X b (tP X.K M H0 g)) : JE X (.Compare a [.Eq] [b] pos) (tD X.K M H0 (bin2 eqO f g)) := ⟨vc_eq hu ha.h hb.h⟩
theorem vc_lt (hu : X.A.units + 64 < cLine) (ha : PE X a (tP X.K M H0 f)) (hb : PE X b (tP X.K M H0 g)) : PE X (.Compare a [.Lt] [b] pos) (tD X.K M H0 (bin2 ltO f g)) := ve_cmp (op_ltD hu) r2_lt ha hb (nobehind _ (by decide) (by decide))
theorem j_vc_lt (hu : X.A.units + 64 < cLine) (ha : JE X a (tP X.K M H0 f)) (hb : JE X b (tP X.K M H0 g)) : JE X (.Compare a [.Lt] [b] pos) (tD X.K M H0 (bin2 ltO f g)) := ⟨vc_lt hu ha.h hb.h⟩
theorem vc_in (hu : X.A.units + 64 < cLine) (ha : PE X a (tP X.K M H0 f)) (hb : PE X b (tP X.K M H0 g)) (hm : behindInMarks .In b = false := by with_unfolding_all rfl) : PE X (.Compare a [.In] [b] pos) (tD X.K M H0 (bin2 (inD false) f g)) := ve_cmp ((op_inD hu).or op_in_str) r2_in ha hb hm
theorem j_vc_in (hu : X.A.units + 64 < cLine) (ha : JE X a (tP X.K M H0 f)) (hb : JE X b (tP X.K M H0 g)) (hm : behindInMarks .In b = false := by with_unfolding_all rfl) : JE X (.Compare a [.In] [b] pos) (tD X.K M H0 (bin2 (inD false) f g)) := ⟨vc_in hu ha.h hb.h hm⟩
theorem vtc_eq (hu : X.A.units + 64 < cLine) (ha : PE X a (tP X.K M H0 f)) (hb : PE X b (tP X.K M H0 g)) : PT X (.Compare a [.Eq] [b] pos) (tB' X.K M H0 fun ρ => asB (bin2 eqO f g ρ)) := vt_cmp (op_eqD hu) r2_eq ha hb (nobehind _ (by decide) (by decide))
theorem j_vtc_eq (hu : X.A.units + 64 < cLine) (ha : JE X a (tP X.K M H0 f)) (hb : JE X b (tP X.K M H0 g)) : JT X (.Compare a [.Eq] [b] pos) (tB' X.K M H0 fun ρ => asB (bin2 eqO f g ρ)) := ⟨vtc_eq hu ha.h hb.h⟩
theorem vtc_ne (hu : X.A.units + 64 < cLine) (ha : PE X a (tP X.K M H0 f)) (hb : PE X b (tP X.K M H0 g)) : PT X (.Compare a [.NotEq] [b] pos) (tB' X.K M H0 fun ρ => asB (bin2 neO f g ρ)) := vt_cmp (op_neD hu) r2_ne ha hb (nobehind _ (by decide) (by decide))
theorem j_vtc_ne (hu : X.A.units + 64 < cLine) (ha : JE X a (tP X.K M H0 f)) (hb : JE X b (tP X.K M H0 g)) : JT X (.Compare a [.NotEq] [b] pos) (tB' X.K M H0 fun ρ => asB (bin2 neO f g ρ)) := ⟨vtc_ne hu ha.h hb.h⟩
theorem vtc_lt (hu : X.A.units + 64 < cLine) (ha : PE X a (tP X.K M H0 f)) (hb : PE X b (tP X.K M H0 g)) : PT X (.Compare a [.Lt] [b] pos) (tB' X.K M H0 fun ρ => asB (bin2 ltO f g ρ)) := vt_cmp (op_ltD hu) r2_lt ha hb (nobehind _ (by decide) (by decide))
theorem j_vtc_lt (hu : X.A.units + 64 < cLine) (ha : JE X a (tP X.K M H0 f)) (hb : JE X b (tP X.K M H0 g)) : JT X (.Compare a [.Lt] [b] pos) (tB' X.K M H0 fun ρ => asB (bin2 ltO f g ρ)) := ⟨vtc_lt hu ha.h hb.h⟩
theorem vtc_gt (hu : X.A.units + 64 < cLine) (ha : PE X a (tP X.K M H0 f)) (hb : PE X b (tP X.K M H0 g)) : PT X (.Compare a [.Gt] [b] pos) (tB' X.K M H0 fun ρ => asB (bin2 gtD f g ρ)) := vt_cmp op_gt (r2_b0 _) ha hb (nobehind _ (by decide) (by decide))
theorem j_vtc_gt (hu : X.A.units + 64 < cLine) (ha : JE X a (tP X.K M H0 f)) (hb : JE X b (tP X.K M H0 g)) : JT X (.Compare a [.Gt] [b] pos) (tB' X.K M H0 fun ρ => asB (bin2 gtD f g ρ)) := ⟨vtc_gt hu ha.h hb.h⟩
theorem vtc_nin (hu : X.A.units + 64 < cLine) (ha : PE X a (tP X.K M H0 f)) (hb : PE X b (tP X.K M H0 g)) (hm : behindInMarks .NotIn b = false := by with_unfolding_all rfl) : PT X (.Compare a [.NotIn] [b] pos) (tB' X.K M H0 fun ρ => asB (bin2 (inD true) f g ρ)) := vt_cmp ((op_ninD hu).or op_notin_str) r2_nin ha hb hm
theorem j_vtc_nin (hu : X.A.units + 64 < cLine) (ha : JE X a (tP X.K M H0 f)) (hb : JE X b (tP X.K M H0 g)) (hm : behindInMarks .NotIn b = false := by with_unfolding_all rfl) : JT X (.Compare a [.NotIn] [b] pos) (tB' X.K M H0 fun ρ => asB (bin2 (inD true) f g ρ)) := ⟨vtc_nin hu ha.h hb.h hm⟩
@[simp] def chainO (F F' : D → D → Option D) (f g h : VE → Option D) : VE → Option D := fun ρ => (f ρ).bind fun x => (g ρ).bind fun y => match F x y with
  | some (.bl true) => (h ρ).bind fun z => F' y z
  | some (.bl false) => some (.bl false)
  | _ => none
@[simp] def truD : Option D → Option Bool
  | some .non => some false
  | some (.bl b) => some b
  | some (.int i) => some (i != 0)
  | some (.str y) => if y.length ≤ sizeLine then some ((y.length : Int) != 0) else none
  | some (.lst xs) => some (!xs.isEmpty)
  | some (.tup xs) => some (!xs.isEmpty)
  | _ => none
theorem DenL.isEmpty {N : Fb} {H : Hp} {xs : List D} {vs : List V} (h : DenL K N H xs vs) : vs.isEmpty = xs.isEmpty := by
  cases xs with
  | nil => simp only [DenL] at h; subst h; rfl
  | cons x xs => simp only [DenL] at h; obtain ⟨_, _, e, _⟩ := h; subst e; rfl
theorem vt_tru (ha : PE X a (tP X.K M H0 f)) (he : ∀ whole, isTrue a X.env whole = (do let v ← whole; standAt a.pos; holding [v] (truthy v)) := by intro _; rfl) : PT X a (tB' X.K M H0 fun ρ => truD (f ρ)) :=
  (pt_truth ha he).mono fun σ H Q ⟨ρ, k, R, e, q⟩ => by
    try dsimp only at e q
    unfold truD at e
    split at e
    · next hf => cases e; exact ⟨ρ, _, R, hf, fun v H' s hv => ⟨_, by rw [hv.non]; rfl, q H' s⟩⟩
    · next hf => cases e; exact ⟨ρ, _, R, hf, fun v H' s hv => ⟨_, by rw [hv.bl]; rfl, q H' s⟩⟩
    · next hf => cases e; exact ⟨ρ, _, R, hf, fun v H' s hv => ⟨_, by rw [hv.int]; rfl, q H' s⟩⟩
    · next hf =>
      split at e
      · next hz => cases e; exact ⟨ρ, _, R, hf, fun v H' s hv => ⟨_, by rw [hv.str]; exact ⟨hz, rfl⟩, q H' s⟩⟩
      · cases e
    · next hf =>
      cases e
      refine ⟨ρ, _, R, hf, fun v H' s hv => ⟨_, ?_, q H' s⟩⟩
      obtain ⟨p, vs, e1, q1, r1⟩ := hv
      subst e1
      exact .inl ⟨vs, q1, by rw [r1.isEmpty]⟩
    · next hf =>
      cases e
      refine ⟨ρ, _, R, hf, fun v H' s hv => ⟨_, ?_, q H' s⟩⟩
      obtain ⟨p, vs, e1, q1, r1⟩ := hv.tup
      subst e1
      exact .inr (.inl ⟨vs, q1, by rw [r1.isEmpty]⟩)
    · cases e
theorem j_vt_tru (ha : JE X a (tP X.K M H0 f)) (he : ∀ whole, isTrue a X.env whole = (do let v ← whole; standAt a.pos; holding [v] (truthy v)) := by intro _; rfl) : JT X a (tB' X.K M H0 fun ρ => truD (f ρ)) := ⟨vt_tru ha.h he⟩
@[simp] def seqItems : D → Option (List D)
  | .lst xs => some xs
  | .tup xs => some xs
  | .str x => some (x.cps.toList.map fun c => D.str ⟨#[c]⟩)
  | _ => none
theorem vi_seq {l : Expr} (hl : PE X l (tQ X.K M H0 f)) : PI X tg l (tI X.K M H0 fun ρ => (f ρ).bind seqItems) := fun pins s σ H R' I ⟨ρ, ds, R, e, q⟩ => by
  try dsimp only at e
  cases hf : f ρ with
  | none => rw [hf] at e; cases e
  | some d =>
    rw [hf] at e
    cases d with
    | lst xs fl =>
      cases fl with
      | true => cases e
      | false => exact vi_list hl pins s σ H R' I ⟨ρ, ds, R, by dsimp only; rw [hf]; exact e, q⟩
    | tup xs => exact vi_tup hl pins s σ H R' I ⟨ρ, ds, R, by dsimp only; rw [hf]; exact e, q⟩
    | str x => exact vi_str hl pins s σ H R' I ⟨ρ, ds, R, by dsimp only; rw [hf]; exact e, q⟩
    | _ => cases e
theorem j_vi_seq {l : Expr} (hl : JE X l (tQ X.K M H0 f)) : JI X tg l (tI X.K M H0 fun ρ => (f ρ).bind seqItems) := ⟨vi_seq hl.h⟩
@[simp] def extR (i : Nat) (o : Option (List D)) (ρ : VE) : Res := match rdO ρ i, o with
  | some xs, some ys => if xs.length + ys.length ≤ sizeLine then .next (ρ.set i (.own (xs ++ ys))) else .fail
  | _, _ => .fail
@[simp] def revR (i : Nat) (ρ : VE) : Res := match rdO ρ i with
  | some xs => .next (ρ.set i (.own xs.reverse))
  | _ => .fail
theorem vs_reverse {i : Nat} {x : Str} {vpos apos cpos : Pos} (hN : X.N[i]? = some x := by rfl) (hv : Vis X.env.scope x := by first | exact Or.inl rfl | exact Or.inr (Or.inl rfl) | exact Or.inr (Or.inr rfl)) (hd : (x == ("__debug__" : Str)) = false := by decide) (hcd : (x == ("__classdict__" : Str)) = false := by decide)
    (hs : swapsWith (.Call (.Attribute (.Name x vpos) "reverse" apos) [] [] cpos) none pos.line X.env = pure false := by rfl)
    (hbase : attributeBase (.Name x vpos) "reverse" X.env (eval (.Name x vpos) X.env) = eval (.Name x vpos) X.env := by rfl) (hline : (apos.endLine == cpos.line) = true := by rfl) :
    PS X (.Expr (.Call (.Attribute (.Name x vpos) "reverse" apos) [] [] cpos) pos) (tS K M H0 fun ρ => revR i ρ) :=
  (ps_expr (pe_bm0 PySem.F.plainAttrs_list PySem.F.slot_list_reverse PySem.F.type_list_reverse mt_reverse (pe_var hN hv hd hcd) hbase hline) hs).mono fun D' σ H ⟨ρ, R, q⟩ => by
    try dsimp only at q
    cases hr : rdO ρ i with
    | none => simp only [hr, revR] at q; exact False.elim q
    | some xs =>
      simp only [hr, revR] at q
      have hi := rdO_slot hr
      obtain ⟨a, vs, e1, z1, z2, z3, z4⟩ := R.slot i _ hi
      have ha := join_some e1
      obtain ⟨R2, S2⟩ := R.chg (ys := xs.reverse) (ws := vs.reverse) hi ha z4.reverse
      exact ⟨.ref a, ha, .inl ⟨rfl, vs, .inl (.inl z3)⟩, a, vs, rfl, rfl, z3, q _ _ R2 S2⟩
theorem j_vs_reverse {i : Nat} {x : Str} {vpos apos cpos : Pos} (hN : X.N[i]? = some x := by rfl) (hv : Vis X.env.scope x := by first | exact Or.inl rfl | exact Or.inr (Or.inl rfl) | exact Or.inr (Or.inr rfl)) (hd : (x == ("__debug__" : Str)) = false := by decide) (hcd : (x == ("__classdict__" : Str)) = false := by decide) (hs : swapsWith (.Call (.Attribute (.Name x vpos) "reverse" apos) [] [] cpos) none pos.line X.env = pure false := by rfl) (hbase : attributeBase (.Name x vpos) "reverse" X.env (eval (.Name x vpos) X.env) = eval (.Name x vpos) X.env := by rfl) (hline : (apos.endLine == cpos.line) = true := by rfl) : JS X (.Expr (.Call (.Attribute (.Name x vpos) "reverse" apos) [] [] cpos) pos) (tS K M H0 fun ρ => revR i ρ) := ⟨vs_reverse hN hv hd hcd hs hbase hline⟩
@[simp] def movR (i j : Nat) (ρ : VE) : Res := match rdO ρ j with
  | some xs => .next ((ρ.set j .no).set i (.own xs))
  | _ => .fail
@[simp] def movG (i j : Nat) (ρ : VE) : Res := match rdG ρ j with
  | some xs => .next ((ρ.set j .no).set i (.own xs true))
  | _ => .fail
end
end L2
namespace L2
theorem PSs.conv {X : Cx} {K : PySem.W.Frag} {M : Fb} {H0 : Hp} {b : List PySem.Stmt} {g g' : VE → Res} (h : PSs X b (tS K M H0 g)) (e : g = g') : PSs X b (tS K M H0 g') := e ▸ h
theorem j_conv {X : Cx} {K : PySem.W.Frag} {M : Fb} {H0 : Hp} {b : List PySem.Stmt} {g g' : VE → Res} (h : JB X b (tS K M H0 g)) (e : g = g') : JB X b (tS K M H0 g') := ⟨PSs.conv h.h e⟩
end L2
namespace L2
theorem j_pt {X : Cx} {e : PySem.Expr} {t : TT} (h : JW X e t) : JT X e t := ⟨h.h.pt⟩
end L2
set_option Elab.async false
set_option linter.all false
set_option maxRecDepth 100000
namespace L2
open PySem PySem.Spec PyProof.Rows
def isrt (ns : List Int) : List Int := ns.mergeSort fun a b => decide (a ≤ b)
section
variable {X : Cx} {K : PySem.W.Frag}
def sortD : List D → Option (List D)
  | [.lst xs] => (asIs xs).bind fun ns => if ns.length < 64 then some ((isrt ns).map D.int) else none
  | _ => none
def putR (i : Nat) (oi ov : Option D) (ρ : VE) : Res := match rdO ρ i, oi, ov with
  | some xs, some (.int k), some d => match ixN xs.length k with
    | some j => .next (ρ.set i (.own (xs.set j d)))
    | none => .fail
  | _, _, _ => .fail
theorem vs_item {M : Fb} {H0 : Hp} {i : Nat} {x : Str} {vpos tpos pos : Pos} {ei e : Expr} {fi f : VE → Option D} (hi : PE X ei (tP K M H0 fi)) (he : PE X e (tD K M H0 f)) (hN : X.N[i]? = some x := by rfl)
    (hv : Vis X.env.scope x := by first | exact Or.inl rfl | exact Or.inr (Or.inl rfl) | exact Or.inr (Or.inr rfl)) (hd : (x == ("__debug__" : Str)) = false := by decide) (hcd : (x == ("__classdict__" : Str)) = false := by decide)
    (ha : ∀ v, assign (.Subscript (.Name x vpos) ei tpos) X.env v = (do
      let ov ← holding [v] (eval (.Name x vpos) X.env)
      let iv ← holding [v, ov] (eval ei X.env)
      standAt tpos
      holding [v, ov, iv] (setItem ov iv v)
      release [v, ov, iv] []) := by intro _; rfl)
    (hs : swapsWithSole [.Subscript (.Name x vpos) ei tpos] e pos.line X.env = pure false := by rfl) (hw : swappedStores [.Subscript (.Name x vpos) ei tpos] e X.env = pure none := by rfl)
    (h1 : (assignEach [.Subscript (.Name x vpos) ei tpos] X.env).map (·.2) = [assign (.Subscript (.Name x vpos) ei tpos) X.env] := by rfl) :
    PS X (.Assign [.Subscript (.Name x vpos) ei tpos] e pos) (tS K M H0 fun ρ => putR i (fi ρ) (f ρ) ρ) := (ps_asg he (pg_sub (pe_var hN hv hd hcd) hi set_list ha) hs hw h1).mono fun D' σ H ⟨ρ, R, q⟩ => by
  try dsimp only at q
  unfold putR at q
  split at q
  · next xs k d hr hfi hf =>
    split at q
    · next j hj =>
      refine ⟨ρ, d, R, hf, fun v H1 s1 hv => ?_⟩
      have hi' := rdO_slot hr
      have R1 := R.st s1
      obtain ⟨a, vs, e1, z1, z2, z3, z4⟩ := R1.slot i _ hi'
      have ha := join_some e1
      refine ⟨.ref a, ha, ρ, .int k, R1, hfi, fun w H2 s2 hw => ?_⟩
      have R2 := R1.st s2
      obtain ⟨R3, S3⟩ := R2.chg (ys := xs.set j d) (ws := vs.set j v) hi' ha (DenL.set j (z4.same s2) (hv.same s2))
      exact ⟨a, vs, k, j, rfl, hw.int, s2 _ _ z3, by rw [← z4.length]; exact hj, q _ _ R3 ((Step.of_same (s1.trans s2)).trans S3)⟩
    · exact False.elim q
  · exact False.elim q
theorem j_vs_item {M : Fb} {H0 : Hp} {i : Nat} {x : Str} {vpos tpos pos : Pos} {ei e : Expr} {fi f : VE → Option D} (hi : JE X ei (tP K M H0 fi)) (he : JE X e (tD K M H0 f)) (hN : X.N[i]? = some x := by rfl) (hv : Vis X.env.scope x := by first | exact Or.inl rfl | exact Or.inr (Or.inl rfl) | exact Or.inr (Or.inr rfl)) (hd : (x == ("__debug__" : Str)) = false := by decide) (hcd : (x == ("__classdict__" : Str)) = false := by decide) (ha : ∀ v, assign (.Subscript (.Name x vpos) ei tpos) X.env v = (do
      let ov ← holding [v] (eval (.Name x vpos) X.env)
      let iv ← holding [v, ov] (eval ei X.env)
      standAt tpos
      holding [v, ov, iv] (setItem ov iv v)
      release [v, ov, iv] []) := by intro _; rfl) (hs : swapsWithSole [.Subscript (.Name x vpos) ei tpos] e pos.line X.env = pure false := by rfl) (hw : swappedStores [.Subscript (.Name x vpos) ei tpos] e X.env = pure none := by rfl) (h1 : (assignEach [.Subscript (.Name x vpos) ei tpos] X.env).map (·.2) = [assign (.Subscript (.Name x vpos) ei tpos) X.env] := by rfl) : JS X (.Assign [.Subscript (.Name x vpos) ei tpos] e pos) (tS K M H0 fun ρ => putR i (fi ρ) (f ρ) ρ) := ⟨vs_item hi.h he.h hN hv hd hcd ha hs hw h1⟩
def RmD (K : PySem.W.Frag) (r : V → List V → Hp → VK → Prop) (F : Str → List D → Option D) : Prop := ∀ (N : Fb) (H : Hp) (z : Str) (vs : List V) (ds : List D) (d : D) (Q : VK), (∀ a, N a → H a ≠ none) → Paired (DenP K N H) ds vs → F z ds = some d →
  (∀ v H', Same H H' → Den K N H' d v → Q v H') → r (.str z) vs H Q
@[simp] def mtO (F : Str → List D → Option D) (f : VE → Option D) (fa : VE → Option (List Sl)) : VE → Option D := fun ρ => match f ρ with
  | some (.str z) => ((fa ρ).bind pks).bind (F z)
  | _ => none
@[simp] def mtO0 (F : Str → List D → Option D) (f : VE → Option D) : VE → Option D := fun ρ => match f ρ with
  | some (.str z) => F z []
  | _ => none
section
variable {M : Fb} {H0 : Hp} {o e : Expr} {es : List Expr} {f : VE → Option D} {fa : VE → Option (List Sl)} {name : Str} {apos cpos : Pos} {id : String} {r : V → List V → Hp → VK → Prop} {F : Str → List D → Option D}
theorem ve_bm (pa : PlainAttrs "str") (slot : Slot "str" name id) (hty : typeOf (.builtin id) = pure (.type "method_descriptor")) (hm : MtR X id r) (hF : RmD X.K r F) (ho : PE X o (tP X.K M H0 f)) (ha : PA X (e :: es) (tA' X.K M H0 fa))
    (hbase : attributeBase o name X.env (eval o X.env) = eval o X.env := by rfl)
    (hfew : ((backTo cpos (starEach (e :: es) X.env)).all (fun x => !x.1) && (backToKw cpos (keywordEach [] X.env)).all (fun x => x.1.isSome)
      && decide ((e :: es).length + ([] : List Keyword).length + (if ([] : List Keyword).isEmpty then 0 else 1) < 30)) = true := by rfl)
    (hline : (apos.endLine == cpos.line) = true := by rfl) (hs : starEach (e :: es) X.env = (false, eval e X.env) :: starEach es X.env := by exact star_c (fun _ _ z => nomatch z)) (hplain : (backTo cpos (starEach es X.env)).any (·.1) = false := by rfl) :
    PE X (.Call (.Attribute o name apos) (e :: es) [] cpos) (tD X.K M H0 (mtO F f fa)) := (pe_bm pa slot hty hm ho ha hbase hfew hline hs hplain).mono fun σ H Q ⟨ρ, d, R, ex, q⟩ => by
  unfold mtO at ex
  split at ex
  · next z hz =>
    cases hf : fa ρ with
    | none => rw [hf] at ex; cases ex
    | some ss =>
      rw [hf] at ex
      cases hp : pks ss with
      | none => simp only [Option.bind, hp] at ex; cases ex
      | some ds =>
        simp only [Option.bind, hp] at ex
        refine ⟨ρ, .str z, R, hz, fun v H1 s1 hv => ?_⟩
        rw [hv.str]
        refine ⟨rfl, ρ, ss, R.st s1, hf, fun vs H2 s2 h2 => ?_⟩
        exact hF _ H2 z vs ds d Q ((R.st s1).st s2).nh (pks_den h2 hp) ex fun w H3 s3 hw => q w H3 ((s1.trans s2).trans s3) hw
  · cases ex
theorem j_ve_bm (pa : PlainAttrs "str") (slot : Slot "str" name id) (hty : typeOf (.builtin id) = pure (.type "method_descriptor")) (hm : MtR X id r) (hF : RmD X.K r F) (ho : JE X o (tP X.K M H0 f)) (ha : JA X (e :: es) (tA' X.K M H0 fa)) (hbase : attributeBase o name X.env (eval o X.env) = eval o X.env := by rfl) (hfew : ((backTo cpos (starEach (e :: es) X.env)).all (fun x => !x.1) && (backToKw cpos (keywordEach [] X.env)).all (fun x => x.1.isSome)
      && decide ((e :: es).length + ([] : List Keyword).length + (if ([] : List Keyword).isEmpty then 0 else 1) < 30)) = true := by rfl) (hline : (apos.endLine == cpos.line) = true := by rfl) (hs : starEach (e :: es) X.env = (false, eval e X.env) :: starEach es X.env := by exact star_c (fun _ _ z => nomatch z)) (hplain : (backTo cpos (starEach es X.env)).any (·.1) = false := by rfl) : JE X (.Call (.Attribute o name apos) (e :: es) [] cpos) (tD X.K M H0 (mtO F f fa)) := ⟨ve_bm pa slot hty hm hF ho.h ha.h hbase hfew hline hs hplain⟩
end
def asSs : List D → Option (List Str)
  | [] => some []
  | .str b :: r => (asSs r).map (b :: ·)
  | _ => none
theorem asSs_map : ∀ {xs : List D} {bs : List Str}, asSs xs = some bs → xs = bs.map D.str
  | [], _, e => by cases e; rfl
  | .str b :: r, _, e => by
    simp only [asSs] at e
    cases h : asSs r with
    | none => rw [h] at e; cases e
    | some bs => rw [h] at e; cases e; rw [asSs_map h]; rfl
  | .non :: _, _, e => nomatch e
  | .bl _ :: _, _, e => nomatch e
  | .int _ :: _, _, e => nomatch e
  | .ty _ :: _, _, e => nomatch e
  | .tup _ :: _, _, e => nomatch e
  | .lst _ _ :: _, _, e => nomatch e
@[simp] theorem asSs_eq : ∀ (ns : List Str), asSs (ns.map D.str) = some ns
  | [] => rfl
  | n :: ns => by simp only [List.map_cons, asSs, asSs_eq ns]; rfl
theorem denL_strs {N : Fb} {H : Hp} : ∀ {bs : List Str} {vs : List V}, DenL K N H (bs.map D.str) vs → vs = bs.map V.str
  | [], _, h => by simpa only [List.map_nil, DenL] using h
  | b :: bs, _, h => by
    simp only [List.map_cons, DenL, Den] at h
    obtain ⟨v, r, e, hv, t⟩ := h
    subst e hv
    rw [denL_strs t]; rfl
@[simp] def joinD (z : Str) : List D → Option D
  | [.lst xs] => (asSs xs).bind fun zs => if (zs.map (·.length)).sum + zs.length * z.length ≤ 16777216 then some (.str (Txt.join z zs)) else none
  | _ => none
theorem rm_join : RmD K (rJoin K) joinD := by
  intro N H z vs ds d Q nh h e q
  unfold joinD at e
  split at e
  · next xs =>
    cases hb : asSs xs with
    | none => rw [hb] at e; cases e
    | some zs =>
      rw [hb] at e
      simp only [Option.bind] at e
      split at e
      · next hz =>
        cases e
        obtain ⟨v, rfl, hv⟩ := Paired.one' h
        obtain ⟨a, ws, e1, q1, r1⟩ := hv
        subst e1
        rw [asSs_map hb] at r1
        rw [denL_strs r1] at q1
        exact ⟨z, a, zs, rfl, rfl, q1, hz, q _ H (Same.refl H) den_str⟩
      · cases e
  · cases e
@[simp] def findD (z : Str) : List D → Option D
  | [.str y] => some (.int (Txt.find z y))
  | _ => none
theorem rm_find : RmD K rFind findD := by
  intro N H z vs ds d Q nh h e q
  unfold findD at e
  split at e
  · next y =>
    cases e
    obtain ⟨v, rfl, hv⟩ := Paired.one' h
    exact ⟨z, y, rfl, by rw [hv.str], q _ H (Same.refl H) den_int⟩
  · cases e
@[simp] def upperD (z : Str) : List D → Option D
  | [] => if Builtin.Str.tooLong (Txt.upper z).length = false then some (.str (Txt.upper z)) else none
  | _ => none
end
end L2
set_option Elab.async false
set_option linter.all false
set_option maxRecDepth 100000
namespace L2
open PySem PySem.Spec PyProof.Rows
structure SubIt (P : Program) (w : World) (i : Addr) (fp : List Addr) (n : Nat) (is : Nat → Value → Prop) (st : Nat → Heap → Prop) : Prop where
  frame : ∀ k h h', st k h → (∀ b, b = i ∨ b ∈ fp → ∀ o, h.get? b = some o → h'.get? b = some o) → st k h'
  lt : ∀ k h, st k h → i < h.objs.size
  item : ∀ (A : Around) (E : Value → Shared → Prop) (s : Shared) (k : Nat) (Q : Value → Shared → Prop), k < n → st k s.heap → (∀ v h' tk, is k v → st (k + 1) h' → Heap.SameBut i s.heap h' → Q v { s with heap := h', toks := tk }) → wpAny (model P w) A (Builtin.SmallTypes.nextOf (.ref i)) Q E s
  fin : ∀ (A : Around) (E : Value → Shared → Prop) (s : Shared) (k : Nat) (Q : Value → Shared → Prop), A.handled = none → n ≤ k → st k s.heap → (∀ h' e, Heap.ExtBut i s.heap h' → (∃ o, h'.get? e = some o ∧ o.cls = .type "StopIteration") → E (.ref e) { s with heap := h' }) →
    wpAny (model P w) A (Builtin.SmallTypes.nextOf (.ref i)) Q E s
section
variable {prog : Program} {w : World} {A : Around} {E : Value → Shared → Prop} {s : Shared}
theorem nextOf_tup_item {i tu : Addr} {k : Nat} {its : Array Value} {v : Value} {Q : Value → Shared → Prop} (hi : s.heap.IsTupleIter i tu k) (ht : s.heap.IsTuple tu its) (hv : its[k]? = some v)
    (q : ∀ h', h'.IsTupleIter i tu (k + 1) → Heap.SameBut i s.heap h' → Q v { s with heap := h' }) : wpAny (model prog w) A (Builtin.SmallTypes.nextOf (.ref i)) Q E s := by
  obtain ⟨oi, e0, c0, f0⟩ := id hi
  obtain ⟨ot, e1, _, m1, f1⟩ := ht
  unfold Builtin.SmallTypes.nextOf
  refine wpAny_bind (wpAny_callSpecial?_slot (name := Str.ofString "__next__") hi.typeIs PySem.F.slot_tuple_iterator_next (wpAny_call_entry PySem.F.slot_tuple_iterator_next hi.typeIs PySem.F.entry_tuple_iterator_next ?_ (PySem.F.args_tuple_iterator_next_1 _)))
  show wpAny _ _ (field (.ref i) 0 >>= _) _ _ s
  refine wpAny_bind (wpAny_field e0 f0 (x := .ref tu) rfl ?_)
  show wpAny _ _ (if (Value.ref tu == Value.none) = true then _ else _) _ _ s
  rw [if_neg (show ¬ ((Value.ref tu == Value.none) = true) from Bool.false_ne_true)]
  show wpAny _ _ (field (.ref i) 1 >>= _) _ _ s
  refine wpAny_bind (wpAny_field e0 f0 (x := .int k 0) rfl ?_)
  show wpAny _ _ (seqItems? (.ref tu) >>= _) _ _ s
  refine wpAny_bind (wpAny_seqItems e1 f1 ?_)
  simp only [hv, Int.toNat_natCast]
  refine wpAny_bind (wpAny_setField e0 f0 (by simp) (wpAny_pure ⟨v, rfl, wpAny_pure (q _ ?_ (Heap.SameBut.update ..))⟩))
  exact ⟨_, Heap.get?_update_self _ e0 (Obj.isFreed_of_fields (Obj.data_mapFields f0 _)), (Obj.cls_mapFields ..).trans c0, by rw [Obj.data_mapFields f0]; simp [rawInt]⟩
theorem nextOf_tup_fin {i tu : Addr} {k : Nat} {its : Array Value} {Q : Value → Shared → Prop} (hh : A.handled = none) (hi : s.heap.IsTupleIter i tu k) (ht : s.heap.IsTuple tu its) (hv : its[k]? = none)
    (q : ∀ h' e, Heap.ExtBut i s.heap h' → (∃ o, h'.get? e = some o ∧ o.cls = .type "StopIteration") → E (.ref e) { s with heap := h' }) : wpAny (model prog w) A (Builtin.SmallTypes.nextOf (.ref i)) Q E s := by
  obtain ⟨oi, e0, c0, f0⟩ := id hi
  obtain ⟨ot, e1, _, m1, f1⟩ := ht
  unfold Builtin.SmallTypes.nextOf
  refine wpAny_bind (wpAny_callSpecial?_slot (name := Str.ofString "__next__") hi.typeIs PySem.F.slot_tuple_iterator_next (wpAny_call_entry PySem.F.slot_tuple_iterator_next hi.typeIs PySem.F.entry_tuple_iterator_next ?_ (PySem.F.args_tuple_iterator_next_1 _)))
  show wpAny _ _ (field (.ref i) 0 >>= _) _ _ s
  refine wpAny_bind (wpAny_field e0 f0 (x := .ref tu) rfl ?_)
  show wpAny _ _ (if (Value.ref tu == Value.none) = true then _ else _) _ _ s
  rw [if_neg (show ¬ ((Value.ref tu == Value.none) = true) from Bool.false_ne_true)]
  show wpAny _ _ (field (.ref i) 1 >>= _) _ _ s
  refine wpAny_bind (wpAny_field e0 f0 (x := .int k 0) rfl ?_)
  show wpAny _ _ (seqItems? (.ref tu) >>= _) _ _ s
  refine wpAny_bind (wpAny_seqItems e1 f1 ?_)
  simp only [hv, Int.toNat_natCast]
  refine wpAny_bind (wpAny_rule (wpAny_bind (wpAny_setField e0 f0 (by simp) ?_)))
  show wpAny _ _ (newExc (.type "StopIteration") ([] : List Value) >>= _) _ _ _
  refine wpAny_bind ?_
  simp only [newTuple, newExc]
  refine wpAny_bind (wpAny_newObj_type ?_ (show (0 : Nat) ≤ sizeLine by decide))
  refine wpAny_bind (m := firstArgMember _ _) (wpAny_of_eq (a := Value.none) (by first | rfl | (unfold firstArgMember; rfl)) ?_)
  refine wpAny_newObj_type ?_ (by first | trivial | (show (0 : Nat) ≤ sizeLine; decide) | size_fits)
  unfold raiseNew
  refine wpAny_bind (wpAny_handled ?_)
  first | rw [hh] | rw [show A.in1.handled = none from hh]
  refine wpAny_bind (wpAny_pure (wpAny_throw ?_))
  exact q _ _ ((Heap.ExtBut.push (Heap.SameBut.extBut (Heap.SameBut.update ..)) _).push _) ⟨_, Heap.get?_push_size _ rfl, rfl⟩
theorem sub_list {P : Program} {w : World} {i l : Addr} {xs : List V} (its : Array Value) (r : Vals xs its.toList) : SubIt P w i [l] xs.length (fun k v => ∃ x, xs[k]? = some x ∧ RelV x v) (fun k h => h.IsListIter i l k ∧ h.IsList l its) where
  frame := fun k h h' ⟨a, b⟩ kp => ⟨a.at fun o e => kp i (.inl rfl) o e, b.at fun o e => kp l (.inr (by simp)) o e⟩
  lt := fun k h ⟨⟨o, e, _⟩, _⟩ => Heap.lt_size e
  item := fun A E s k Q hk ⟨a, b⟩ q => by
    have hl := r.length
    have hk2 : k < its.size := by simp at hl; omega
    obtain ⟨u, e1, e2⟩ := r.get (List.getElem?_eq_getElem hk)
    refine wpAny_nextOf_list_item a b (x := u) (by simpa using e1) fun h' a' sb => ?_
    by_cases hl : l = i
    · subst hl
      obtain ⟨o, e, c, _⟩ := a
      obtain ⟨o', e', c', _⟩ := b
      rw [e] at e'; cases e'
      rw [c] at c'
      exact absurd c' (by decide)
    · exact q _ h' s.toks ⟨_, List.getElem?_eq_getElem hk, e2⟩ ⟨a', b.extBut sb.extBut hl⟩ sb
  fin := fun A E s k Q hh hk ⟨a, b⟩ q => wpAny_nextOf_list_end hh a b (Array.getElem?_eq_none (by have hl := r.length; simp at hl; omega)) q
theorem sub_tup {P : Program} {w : World} {i l : Addr} {xs : List V} (its : Array Value) (r : Vals xs its.toList) : SubIt P w i [l] xs.length (fun k v => ∃ x, xs[k]? = some x ∧ RelV x v) (fun k h => h.IsTupleIter i l k ∧ h.IsTuple l its) where
  frame := fun k h h' ⟨a, b⟩ kp => ⟨a.at fun o e => kp i (.inl rfl) o e, b.at fun o e => kp l (.inr (by simp)) o e⟩
  lt := fun k h ⟨⟨o, e, _⟩, _⟩ => Heap.lt_size e
  item := fun A E s k Q hk ⟨a, b⟩ q => by
    obtain ⟨u, e1, e2⟩ := r.get (List.getElem?_eq_getElem hk)
    refine nextOf_tup_item a b (v := u) (by simpa using e1) fun h' a' sb => ?_
    by_cases hl : l = i
    · subst hl
      obtain ⟨o, e, c, _⟩ := a
      obtain ⟨o', e', c', _⟩ := b
      rw [e] at e'; cases e'
      rw [c] at c'
      exact absurd c' (by decide)
    · exact q _ h' s.toks ⟨_, List.getElem?_eq_getElem hk, e2⟩ ⟨a', b.at fun o e => sb.extBut _ _ hl e⟩ sb
  fin := fun A E s k Q hh hk ⟨a, b⟩ q => nextOf_tup_fin hh a b (Array.getElem?_eq_none (by have hl := r.length; simp at hl; omega)) q
def strNm (x : Str) : String := if x.cps.all (· < 128) = true then "str_ascii_iterator" else "str_iterator"
def chrV (x : Str) : List V := x.cps.toList.map fun c => .str ⟨#[c]⟩
theorem sub_txt {P : Program} {w : World} {i : Addr} (x : Str) : SubIt P w i [] (chrV x).length (fun k v => ∃ y, (chrV x)[k]? = some y ∧ RelV y v) (fun k h => ∃ t, h.IsStrIter i (strNm x) x t k) where
  frame := fun k h h' ⟨t, o, e, r⟩ kp => ⟨t, o, kp i (.inl rfl) o e, r⟩
  lt := fun k h ⟨t, o, e, _⟩ => Heap.lt_size e
  item := fun A E s k Q hk ⟨t, a⟩ q => by
    have hk2 : k < x.cps.size := by simpa [chrV] using hk
    unfold strNm at a q
    by_cases ha : x.cps.all (· < 128) = true
    · rw [if_pos ha] at a q
      exact wpAny_nextOf_ascii_item a (c := x.cps[k]) (by simp [hk2]) fun h' a' sb => q _ h' (s.toks + 1) ⟨.str ⟨#[x.cps[k]]⟩, by simp [chrV, hk2], _, rfl⟩ ⟨t, a'⟩ sb
    · rw [if_neg ha] at a q
      exact wpAny_nextOf_wide_item a (c := x.cps[k]) (by simp [hk2]) fun h' a' sb => q _ h' (s.toks + 1) ⟨.str ⟨#[x.cps[k]]⟩, by simp [chrV, hk2], _, rfl⟩ ⟨t, a'⟩ sb
  fin := fun A E s k Q hh hk ⟨t, a⟩ q => by
    have hk2 : x.cps.size ≤ k := by simpa [chrV] using hk
    unfold strNm at a
    by_cases ha : x.cps.all (· < 128) = true
    · rw [if_pos ha] at a
      exact wpAny_nextOf_ascii_end hh a (by simp [hk2]) q
    · rw [if_neg ha] at a
      exact wpAny_nextOf_wide_end hh a (by simp [hk2]) q
structure ZApart (z tin tout ia ib : Addr) (fa fb : List Addr) : Prop where
  n1 : tin ≠ z
  n2 : tout ≠ z
  n3 : ia ≠ z
  n4 : ib ≠ z
  n5 : tin ≠ tout
  n6 : tin ≠ ia
  n7 : tin ≠ ib
  n8 : tout ≠ ia
  n9 : tout ≠ ib
  n10 : ia ≠ ib
  fz : ∀ b, b ∈ fa ∨ b ∈ fb → b ≠ z ∧ b ≠ tout ∧ b ≠ ia ∧ b ≠ ib
section
variable {z tin tout ia ib : Addr} {fa fb : List Addr} {n m k : Nat} {isA isB : Nat → Value → Prop} {sa sb : Nat → Heap → Prop} {a b : Value}
theorem ZApart.keepA (D : ZApart z tin tout ia ib fa fb) (SA : SubIt prog w ia fa n isA sa) {h h' : Heap} (st : sa k h) {c : Addr} (hc : c = z ∨ c = tout ∨ c = ib) (sb' : Heap.SameBut c h h') : sa k h' :=
  SA.frame k h h' st fun x hx o e => by
    refine sb'.extBut x o ?_ e
    rcases hx with rfl | hx
    · rcases hc with rfl | rfl | rfl
      · exact D.n3
      · exact Ne.symm D.n8
      · exact D.n10
    · obtain ⟨q1, q2, q3, q4⟩ := D.fz x (.inl hx)
      rcases hc with rfl | rfl | rfl
      · exact q1
      · exact q2
      · exact q4
theorem ZApart.keepB (D : ZApart z tin tout ia ib fa fb) (SB : SubIt prog w ib fb n isB sb) {h h' : Heap} (st : sb k h) {c : Addr} (hc : c = z ∨ c = tout ∨ c = ia) (sb' : Heap.SameBut c h h') : sb k h' :=
  SB.frame k h h' st fun x hx o e => by
    refine sb'.extBut x o ?_ e
    rcases hx with rfl | hx
    · rcases hc with rfl | rfl | rfl
      · exact D.n4
      · exact Ne.symm D.n9
      · exact Ne.symm D.n10
    · obtain ⟨q1, q2, q3, q4⟩ := D.fz x (.inr hx)
      rcases hc with rfl | rfl | rfl
      · exact q1
      · exact q2
      · exact q3
theorem zip_item {Q : Option Value → Shared → Prop} (D : ZApart z tin tout ia ib fa fb) (SA : SubIt prog w ia fa n isA sa) (SB : SubIt prog w ib fb m isB sb)
    (hz : IsZip s.heap z tin tout .none) (hi : IsPair s.heap tin (.ref ia) (.ref ib)) (ho : IsPair s.heap tout a b) (ha : sa k s.heap) (hb : sb k s.heap) (kn : k < n) (km : k < m)
    (q : ∀ x y h' tk, isA k x → isB k y → IsZip h' z tin tout (rawInt s.heap.objs.size) → IsPair h' tout x y → sa (k + 1) h' → sb (k + 1) h' → IsPair h' s.heap.objs.size x y → h'.objs.size = s.heap.objs.size + 1 →
      (∀ c o, c ≠ z → c ≠ tout → c ≠ ia → c ≠ ib → s.heap.get? c = some o → h'.get? c = some o) → Q (some (.ref s.heap.objs.size)) { s with heap := h', toks := tk }) :
    wpAny (model prog w) A (pyNext (.ref z)) Q E s := by
  have ty : s.TypeIs (.ref z) "zip" := ⟨_, hz, rfl⟩
  unfold pyNext
  refine wpAny_bind (wpAny_attempt (wpAny_callSpecial?_slot (name := Str.ofString "__next__") ty PySem.F.slot_zip_next (wpAny_call_entry PySem.F.slot_zip_next ty PySem.F.entry_zip_next ?_ (PySem.F.args_zip_next_1 _))))
  show wpAny _ _ (field (.ref z) 2 >>= _) _ _ _
  refine wpAny_bind (wpAny_field hz rfl (x := .bool false) rfl ?_)
  show wpAny _ _ (field (.ref z) 3 >>= _) _ _ _
  refine wpAny_bind (wpAny_field hz rfl (x := .ref tin) rfl ?_)
  refine wpAny_bind (wpAny_seqItems hi rfl ?_)
  show wpAny _ _ (Builtin.SmallTypes.ownedTupleIsFree (.ref z) >>= _) _ _ _
  refine wpAny_bind ?_
  unfold Builtin.SmallTypes.ownedTupleIsFree
  refine wpAny_bind (wpAny_field hz rfl (x := .none) rfl (wpAny_pure ?_))
  rw [if_pos rfl]
  refine wpAny_bind (wpAny_rule ?_)
  refine wpAny_bind (wpAny_field hz rfl (x := .ref tout) rfl ?_)
  refine wpAny_bind (wpAny_setField_rec hz (by simp) fun g1 z1 b1 => ?_)
  have z1 : IsZip g1 z tin tout .ellipsis := z1
  refine wpAny_bind ?_
  simp only [List.zipIdx_nil, List.zipIdx_cons, List.forIn_nil, List.forIn_cons]
  refine wpAny_bind (wpAny_bind (wpAny_onRaise ?_))
  show wpAny _ _ (Builtin.SmallTypes.nextOf (.ref ia) >>= _) _ _ _
  refine wpAny_bind (SA.item _ _ _ k _ kn (D.keepA SA ha (.inl rfl) b1) fun x g2 tk2 hx a2 b2 => wpAny_pure ?_)
  have o2 : IsPair g2 tout a b := b2.extBut _ _ D.n8 (b1.extBut _ _ D.n2 ho)
  refine wpAny_bind (wpAny_seqItems o2 rfl ?_)
  refine wpAny_bind (wpAny_updateSeq_pair o2 fun g3 o3 b3 => ?_)
  have o3 : IsPair g3 tout x b := o3
  refine wpAny_bind (wpAny_letGo (wpAny_pure ?_))
  refine wpAny_bind (wpAny_bind (wpAny_onRaise ?_))
  show wpAny _ _ (Builtin.SmallTypes.nextOf (.ref ib) >>= _) _ _ _
  have hb3 : sb k g3 := D.keepB SB (D.keepB SB (D.keepB SB hb (.inl rfl) b1) (.inr (.inr rfl)) b2) (.inr (.inl rfl)) b3
  refine wpAny_bind (SB.item _ _ _ k _ km hb3 fun y g4 tk4 hy a4 b4 => wpAny_pure ?_)
  have o4 : IsPair g4 tout x b := b4.extBut _ _ D.n9 o3
  refine wpAny_bind (wpAny_seqItems o4 rfl ?_)
  refine wpAny_bind (wpAny_updateSeq_pair o4 fun g5 o5 b5 => ?_)
  have o5 : IsPair g5 tout x y := o5
  refine wpAny_bind (wpAny_letGo (wpAny_pure (wpAny_pure ?_)))
  refine wpAny_bind (wpAny_seqItems o5 rfl ?_)
  refine wpAny_bind (wpAny_newTuple ?_)
  have sz : g5.objs.size = s.heap.objs.size := by rw [b5.1, b4.1, b3.1, b2.1, b1.1]
  have z5 : IsZip g5 z tin tout .ellipsis := b5.extBut _ _ (Ne.symm D.n2) (b4.extBut _ _ (Ne.symm D.n4) (b3.extBut _ _ (Ne.symm D.n2) (b2.extBut _ _ (Ne.symm D.n3) z1)))
  have kp : ∀ c o, c ≠ z → c ≠ tout → c ≠ ia → c ≠ ib → s.heap.get? c = some o → g5.get? c = some o := fun c o c1 c2 c3 c4 e =>
    b5.extBut _ _ c2 (b4.extBut _ _ c4 (b3.extBut _ _ c2 (b2.extBut _ _ c3 (b1.extBut _ _ c1 e))))
  have a5 : sa (k + 1) g5 := D.keepA SA (D.keepA SA (D.keepA SA a2 (.inr (.inl rfl)) b3) (.inr (.inr rfl)) b4) (.inr (.inl rfl)) b5
  have b5' : sb (k + 1) g5 := D.keepB SB a4 (.inr (.inl rfl)) b5
  have zlt : z < g5.objs.size := Heap.lt_size z5
  show wpAny _ _ (Builtin.SmallTypes.ownedTupleHandOut (.ref z) (.ref g5.objs.size) >>= _) _ _ _
  refine wpAny_bind ?_
  unfold Builtin.SmallTypes.ownedTupleHandOut
  have z6 : IsZip (g5.push { cls := .type "tuple", data := .seq #[x, y] }) z tin tout .ellipsis := Heap.get?_push_of_some _ z5
  refine wpAny_bind (wpAny_setField_rec z6 (by simp) fun g7 z7 b7 => ?_)
  have z7 : IsZip g7 z tin tout (rawInt g5.objs.size) := z7
  refine wpAny_setField_rec z7 (by simp) fun g8 z8 b8 => ?_
  have z8 : IsZip g8 z tin tout (rawInt g5.objs.size) := z8
  have up : ∀ c o, c ≠ z → g5.get? c = some o → g8.get? c = some o := fun c o c1 e => b8.extBut _ _ c1 (b7.extBut _ _ c1 (Heap.get?_push_of_some _ e))
  have new : IsPair g8 g5.objs.size x y := b8.extBut _ _ (Nat.ne_of_gt zlt) (b7.extBut _ _ (Nat.ne_of_gt zlt) (Heap.get?_push_size _ rfl))
  have s8 : g8.objs.size = g5.objs.size + 1 := by rw [b8.1, b7.1, Heap.size_push]
  have a8 : sa (k + 1) g8 := SA.frame _ _ _ a5 fun c hc o e => up c o (by
    rcases hc with rfl | hc
    · exact D.n3
    · exact (D.fz c (.inl hc)).1) e
  have b8' : sb (k + 1) g8 := SB.frame _ _ _ b5' fun c hc o e => up c o (by
    rcases hc with rfl | hc
    · exact D.n4
    · exact (D.fz c (.inr hc)).1) e
  rw [sz] at z8 new s8
  refine wpAny_pure ⟨_, rfl, wpAny_pure ?_⟩
  show Q (some (.ref g5.objs.size)) _
  rw [sz]
  exact q x y g8 tk4 hx hy z8 (up _ _ D.n2 o5) a8 b8' new s8 fun c o c1 c2 c3 c4 e => up c o c1 (kp c o c1 c2 c3 c4 e)
theorem zip_fin {Q : Option Value → Shared → Prop} (hh : A.handled = none) (D : ZApart z tin tout ia ib fa fb) (SA : SubIt prog w ia fa n isA sa) (SB : SubIt prog w ib fb m isB sb)
    (hz : IsZip s.heap z tin tout .none) (hi : IsPair s.heap tin (.ref ia) (.ref ib)) (ho : IsPair s.heap tout a b) (ha : sa k s.heap) (hb : sb k s.heap) (kn : n ≤ k ∨ m ≤ k)
    (q : ∀ h' tk, (∀ c o, c ≠ z → c ≠ tout → c ≠ ia → c ≠ ib → s.heap.get? c = some o → h'.get? c = some o) → Q none { s with heap := h', toks := tk }) :
    wpAny (model prog w) A (pyNext (.ref z)) Q E s := by
  have ty : s.TypeIs (.ref z) "zip" := ⟨_, hz, rfl⟩
  unfold pyNext
  refine wpAny_bind (wpAny_attempt (wpAny_callSpecial?_slot (name := Str.ofString "__next__") ty PySem.F.slot_zip_next (wpAny_call_entry PySem.F.slot_zip_next ty PySem.F.entry_zip_next ?_ (PySem.F.args_zip_next_1 _))))
  have last : ∀ (h' : Heap) (tk : Nat) (e : Addr), (∀ c o, c ≠ z → c ≠ tout → c ≠ ia → c ≠ ib → s.heap.get? c = some o → h'.get? c = some o) → (∃ o, h'.get? e = some o ∧ o.cls = .type "StopIteration") →
      wpAny (model prog w) A (do if (← isInstance (.ref e) (.type "StopIteration")) = true then pure (none : Option Value) else throw (Value.ref e)) Q E { s with heap := h', toks := tk } := fun h' tk e kp ⟨o, e1, c1⟩ =>
    wpAny_bind (wpAny_isInstance (T := "StopIteration") (b := true) ⟨o, e1, c1⟩ isSubtype_stop (wpAny_pure (q h' tk kp)))
  show wpAny _ _ (field (.ref z) 2 >>= _) _ _ _
  refine wpAny_bind (wpAny_field hz rfl (x := .bool false) rfl ?_)
  show wpAny _ _ (field (.ref z) 3 >>= _) _ _ _
  refine wpAny_bind (wpAny_field hz rfl (x := .ref tin) rfl ?_)
  refine wpAny_bind (wpAny_seqItems hi rfl ?_)
  show wpAny _ _ (Builtin.SmallTypes.ownedTupleIsFree (.ref z) >>= _) _ _ _
  refine wpAny_bind ?_
  unfold Builtin.SmallTypes.ownedTupleIsFree
  refine wpAny_bind (wpAny_field hz rfl (x := .none) rfl (wpAny_pure ?_))
  rw [if_pos rfl]
  refine wpAny_bind (wpAny_rule ?_)
  refine wpAny_bind (wpAny_field hz rfl (x := .ref tout) rfl ?_)
  refine wpAny_bind (wpAny_setField_rec hz (by simp) fun g1 z1 b1 => ?_)
  have z1 : IsZip g1 z tin tout .ellipsis := z1
  refine wpAny_bind ?_
  simp only [List.zipIdx_nil, List.zipIdx_cons, List.forIn_nil, List.forIn_cons]
  refine wpAny_bind (wpAny_bind (wpAny_onRaise ?_))
  show wpAny _ _ (Builtin.SmallTypes.nextOf (.ref ia) >>= _) _ _ _
  by_cases ka : n ≤ k
  · refine wpAny_bind (SA.fin A.in1 _ _ k _ (by first | exact hh | simpa using hh) ka (D.keepA SA ha (.inl rfl) b1) fun g2 e x2 he => ?_)
    obtain ⟨oe, e1, c1⟩ := he
    have z2 : IsZip g2 z tin tout .ellipsis := x2 _ _ (Ne.symm D.n3) z1
    have ez : e ≠ z := fun x => by subst x; rw [z2] at e1; cases e1; simp at c1
    exact wpAny_setField_rec z2 (by simp) fun g3 _ b3 => last g3 s.toks e (fun c o c1 _ c3 _ x => b3.extBut _ _ c1 (x2 _ _ c3 (b1.extBut _ _ c1 x))) ⟨oe, b3.extBut _ _ ez e1, c1⟩
  · have kb : m ≤ k := by rcases kn with h | h; exact absurd h ka; exact h
    refine wpAny_bind (SA.item _ _ _ k _ (Nat.lt_of_not_le ka) (D.keepA SA ha (.inl rfl) b1) fun x g2 tk2 hx a2 b2 => wpAny_pure ?_)
    have o2 : IsPair g2 tout a b := b2.extBut _ _ D.n8 (b1.extBut _ _ D.n2 ho)
    refine wpAny_bind (wpAny_seqItems o2 rfl ?_)
    refine wpAny_bind (wpAny_updateSeq_pair o2 fun g3 o3 b3 => ?_)
    have o3 : IsPair g3 tout x b := o3
    refine wpAny_bind (wpAny_letGo (wpAny_pure ?_))
    refine wpAny_bind (wpAny_bind (wpAny_onRaise ?_))
    show wpAny _ _ (Builtin.SmallTypes.nextOf (.ref ib) >>= _) _ _ _
    have hb3 : sb k g3 := D.keepB SB (D.keepB SB (D.keepB SB hb (.inl rfl) b1) (.inr (.inr rfl)) b2) (.inr (.inl rfl)) b3
    refine wpAny_bind (SB.fin A.in1 _ _ k _ (by first | exact hh | simpa using hh) kb hb3 fun g4 e x4 he => ?_)
    obtain ⟨oe, e1, c1⟩ := he
    have z4 : IsZip g4 z tin tout .ellipsis := x4 _ _ (Ne.symm D.n4) (b3.extBut _ _ (Ne.symm D.n2) (b2.extBut _ _ (Ne.symm D.n3) z1))
    have ez : e ≠ z := fun x => by subst x; rw [z4] at e1; cases e1; simp at c1
    exact wpAny_setField_rec z4 (by simp) fun g5 _ b5 => last g5 tk2 e (fun c o c1 c2 c3 c4 x => b5.extBut _ _ c1 (x4 _ _ c4 (b3.extBut _ _ c2 (b2.extBut _ _ c3 (b1.extBut _ _ c1 x))))) ⟨oe, b5.extBut _ _ ez e1, c1⟩
end
end
end L2
set_option Elab.async false
set_option linter.all false
set_option maxRecDepth 100000
namespace L2
open PySem PySem.Spec PyProof.Rows
section
variable {X : Cx} {pins : List (Addr × Obj)} {σ : St} {H : Hp} {s : Shared} {h' : Heap}
theorem Inv.turnedL {fp : List Addr} (I : Inv X pins σ H s) (hf : ∀ b ∈ fp, FpOk X pins H b) (k : ∀ b o, b ∉ fp → s.heap.get? b = some o → h'.get? b = some o) : Inv X pins σ H { s with heap := h' } := by
  have nit : ∀ b u, H b = some u → b ∉ fp := fun b u e z => by rw [(hf b z).1] at e; cases e
  refine I.step (g' := s.gens) (d' := s.drawn) (t' := s.toks) (ch := fp) (fun b hb => ?_) (fun b o _ _ hc e _ => k b o hc e) (fun b o _ _ hc e _ => ⟨o.slots, k b o hc e⟩) (fun _ _ _ _ n => n)
    (fun b o hc e => ⟨o, k b o hc e⟩) (fun _ _ e => e) (fun _ _ _ e => e) (fun b ps e => ⟨#[], by rw [e]; simp⟩) (fun m hm => ?_) (fun b u e => ?_) I.bare
  · obtain ⟨_, f1, _, f3, f4, f5⟩ := hf b hb
    exact ⟨f3, f1, f4, f5⟩
  · obtain ⟨o, es, ep, ho, r⟩ := hm
    exact ⟨o, es, ep, k _ o (fun z => (hf _ z).2.1 rfl) ho, r⟩
  · refine (I.hok b u e).stay (fun c v hc q => k c v ?_ q) (fun _ q => q) fun _ _ q => q
    rcases hc with z | z
    · rw [z]; exact nit b u e
    · exact nit c _ z
theorem Inv.yielded {fp : List Addr} {p : Addr} {vs : List V} (I : Inv X pins σ H s) (hf : ∀ b ∈ fp, FpOk X pins H b) (k : ∀ b o, b ∉ fp → s.heap.get? b = some o → h'.get? b = some o) (hp : s.heap.objs.size ≤ p)
    (new : ObjOk X.prog X.w (upd H p (.tup vs)) h' p (.tup vs)) : Inv X pins σ (upd H p (.tup vs)) { s with heap := h' } := by
  have nit : ∀ b u, H b = some u → b ∉ fp := fun b u e z => by rw [(hf b z).1] at e; cases e
  have hn : H p = none := I.hok.fresh hp
  refine I.step (g' := s.gens) (d' := s.drawn) (t' := s.toks) (ch := fp) (fun b hb => ?_) (fun b o _ _ hc e _ => k b o hc e) (fun b o _ _ hc e _ => ⟨o.slots, k b o hc e⟩) (fun b o _ e n => ?_)
    (fun b o hc e => ⟨o, k b o hc e⟩) (fun b xs e => ?_) (fun b o u e => ?_) (fun b ps e => ⟨#[], ?_⟩) (fun m hm => ?_) (fun b u e => ?_) I.bare
  · obtain ⟨_, f1, _, f3, f4, f5⟩ := hf b hb
    exact ⟨f3, f1, f4, f5⟩
  · rw [upd_ne (Nat.ne_of_lt (Nat.lt_of_lt_of_le (Heap.lt_size e) hp))]; exact n
  · rw [upd_ne (ne_of_none e hn)]; exact e
  · rw [upd_ne (ne_of_none e hn)]; exact e
  · rw [upd_ne (ne_of_none e hn), e]; simp
  · obtain ⟨o, es, ep, ho, r⟩ := hm
    exact ⟨o, es, ep, k _ o (fun z => (hf _ z).2.1 rfl) ho, r⟩
  · by_cases hb : b = p
    · subst hb; rw [upd_same] at e; cases e; exact new
    · rw [upd_ne hb] at e
      refine (I.hok b u e).stay (fun c v hc q => k c v ?_ q) (fun c q => by rw [upd_ne (ne_of_none q hn)]; exact q) fun c xs q => by rw [upd_ne (ne_of_none q hn)]; exact q
      rcases hc with z | z
      · rw [z]; exact nit b u e
      · exact nit c _ z
end
inductive Src where
  | l (a : Addr)
  | t (a : Addr)
  | x (s : Str)
@[reducible] def Src.v : Src → V
  | .l a => .ref a
  | .t a => .ref a
  | .x s => .str s
@[reducible] def Src.fp : Src → List Addr
  | .l a => [a]
  | .t a => [a]
  | .x _ => []
def Src.sq (K : PySem.W.Frag) (H : Hp) : Src → List V → Prop
  | .l a => SqL K H a
  | .t a => SqT K H a
  | .x s => fun xs => xs = chrV s
def Src.nm : Src → String
  | .l _ => "list_iterator"
  | .t _ => "tuple_iterator"
  | .x s => strNm s
def Src.ok (h : Heap) (xs : List V) : Src → Prop
  | .l a => ∃ its : Array Value, Vals xs its.toList ∧ h.IsList a its
  | .t a => ∃ its : Array Value, Vals xs its.toList ∧ h.IsTuple a its
  | .x s => xs = chrV s
def Src.it (h : Heap) (i : Addr) (k : Nat) : Src → Prop
  | .l a => h.IsListIter i a k
  | .t a => h.IsTupleIter i a k
  | .x s => ∃ t, h.IsStrIter i (strNm s) s t k
theorem Src.of (S : Src) {X : Cx} {pins : List (Addr × Obj)} {σ : St} {H : Hp} {s : Shared} {xs : List V} (I : Inv X pins σ H s) (h : S.sq X.K H xs) : S.ok s.heap xs := by
  cases S with
  | l a => obtain ⟨its, r, p, z⟩ := I.list h; exact ⟨its.toArray, r, p.isList⟩
  | t a => obtain ⟨its, r, p, z⟩ := I.tuple h; exact ⟨its.toArray, r, (show s.heap.IsTuple a its.toArray from p)⟩
  | x s => exact h
theorem Src.inj (S : Src) {X : Cx} {pins : List (Addr × Obj)} {σ : St} {H : Hp} {s : Shared} {xs ys : List V} (I : Inv X pins σ H s) (h : S.sq X.K H xs) (h' : S.sq X.K H ys) : xs = ys := by
  cases S with
  | l a => exact I.list_inj h h'
  | t a => exact I.tuple_inj h h'
  | x s => exact (show xs = chrV s from h).trans (show ys = chrV s from h').symm
theorem Src.lt (S : Src) {h : Heap} {xs : List V} (p : S.ok h xs) : ∀ b ∈ S.fp, b < h.objs.size := by
  intro b hb
  cases S with
  | l a => rw [List.mem_singleton.mp hb]; obtain ⟨its, _, o, e, _⟩ := p; exact Heap.lt_size e
  | t a => rw [List.mem_singleton.mp hb]; obtain ⟨its, _, o, e, _⟩ := p; exact Heap.lt_size e
  | x s => cases hb
theorem Src.okAt (S : Src) {h h' : Heap} {xs : List V} (p : S.ok h xs) (k : ∀ b ∈ S.fp, ∀ o, h.get? b = some o → h'.get? b = some o) : S.ok h' xs := by
  cases S with
  | l a => obtain ⟨its, r, q⟩ := p; exact ⟨its, r, Heap.IsList.at q (k a (by simp))⟩
  | t a => obtain ⟨its, r, q⟩ := p; exact ⟨its, r, Heap.IsTuple.at q (k a (by simp))⟩
  | x s => exact p
theorem Src.itAt (S : Src) {h h' : Heap} {i : Addr} {n : Nat} (p : S.it h i n) (k : ∀ o, h.get? i = some o → h'.get? i = some o) : S.it h' i n := by
  cases S with
  | l a => exact Heap.IsListIter.at p k
  | t a => exact Heap.IsTupleIter.at p k
  | x s => obtain ⟨t, o, e, r⟩ := p; exact ⟨t, o, k o e, r⟩
theorem Src.itOb (S : Src) {h : Heap} {i : Addr} {n : Nat} (p : S.it h i n) : ∃ o, h.get? i = some o ∧ ∀ v, o.data ≠ .cell v := by
  cases S with
  | l a => obtain ⟨o, e, c, d⟩ := p; exact ⟨o, e, fun v z => by rw [d] at z; cases z⟩
  | t a => obtain ⟨o, e, c, d⟩ := p; exact ⟨o, e, fun v z => by rw [d] at z; cases z⟩
  | x s => obtain ⟨t, o, e, c, d⟩ := p; exact ⟨o, e, fun v z => by rw [d] at z; cases z⟩
theorem Src.sub (S : Src) {P : Program} {w : World} {i : Addr} {h : Heap} {xs : List V} (p : S.ok h xs) : ∃ st : Nat → Heap → Prop, SubIt P w i S.fp xs.length (fun k v => ∃ x, xs[k]? = some x ∧ RelV x v) st ∧ (∀ k, S.it h i k → st k h) ∧ ∀ k h', st k h' → S.it h' i k := by
  cases S with
  | l a => obtain ⟨its, r, q⟩ := p; exact ⟨_, sub_list its r, fun k e => ⟨e, q⟩, fun k h' e => e.1⟩
  | t a => obtain ⟨its, r, q⟩ := p; exact ⟨_, sub_tup its r, fun k e => ⟨e, q⟩, fun k h' e => e.1⟩
  | x s => rw [show xs = chrV s from p]; exact ⟨_, sub_txt s, fun k e => e, fun k h' e => e⟩
def Src.obj (S : Src) (u : Value) : Obj := { cls := .type S.nm, data := .fields #[u, .int 0 0] }
theorem Src.pyIter (S : Src) {prog : Program} {w : World} {A : Around} {E : Value → Shared → Prop} {s : Shared} {xs : List V} {u : Value} (ru : RelV S.v u) {Q : Value → Shared → Prop} (p : S.ok s.heap xs)
    (q : Q (.ref s.heap.objs.size) { s with heap := s.heap.push (S.obj u) }) : wpAny (model prog w) A (pyIter u) Q E s := by
  cases S with
  | l a => obtain ⟨its, r, p⟩ := p; have e : u = .ref a := ru; subst e; exact wpAny_pyIter_list p q
  | t a => obtain ⟨its, r, p⟩ := p; have e : u = .ref a := ru; subst e; exact wpAny_pyIter_tuple p q
  | x x =>
    obtain ⟨t, rfl⟩ := (show ∃ t, u = Value.str x t from ru)
    unfold Src.obj Src.nm strNm at q
    by_cases ha : x.cps.all (· < 128) = true
    · simp only [ha, if_true] at q; exact wpAny_pyIter_ascii ha q
    · simp only [ha, if_false] at q; exact wpAny_pyIter_wide (by simpa using ha) q
theorem Src.new (S : Src) {h : Heap} {u : Value} (ru : RelV S.v u) : S.it (h.push (S.obj u)) h.objs.size 0 := by
  cases S with
  | l a => have e : u = .ref a := ru; subst e; exact ⟨_, Heap.get?_push_size _ rfl, rfl, rfl⟩
  | t a => have e : u = .ref a := ru; subst e; exact ⟨_, Heap.get?_push_size _ rfl, rfl, rfl⟩
  | x x => obtain ⟨t, rfl⟩ := (show ∃ t, u = Value.str x t from ru); exact ⟨t, _, Heap.get?_push_size _ rfl, rfl, rfl⟩
@[reducible] def zh1 (h : Heap) (A : Src) (u : Value) : Heap := h.push (A.obj u)
@[reducible] def zh2 (h : Heap) (A B : Src) (u v : Value) : Heap := (zh1 h A u).push (B.obj v)
@[reducible] def zh3 (h : Heap) (A B : Src) (u v : Value) : Heap := (zh2 h A B u v).push { cls := .type "tuple", data := .seq #[.ref h.objs.size, .ref (zh1 h A u).objs.size] }
@[reducible] def zh4 (h : Heap) (A B : Src) (u v : Value) : Heap := (zh3 h A B u v).push { cls := .type "tuple", data := .seq #[.none, .none] }
@[reducible] def zh5 (h : Heap) (A B : Src) (u v : Value) : Heap := (zh4 h A B u v).push { cls := .type "zip", data := .fields #[.none, .bool false, .bool false, .ref (zh2 h A B u v).objs.size, .ref (zh3 h A B u v).objs.size] }
theorem zip_new (A B : Src) {u v : Value} (ru : RelV A.v u) (rv : RelV B.v v) (xs ys : List V) : Meets (Builtin.«zip.__new__» ⟨[.type "zip", u, v], []⟩) (fun _ R s => A.ok s.heap xs ∧ B.ok s.heap ys ∧ R (.ok (.ret (.ref (zh4 s.heap A B u v).objs.size))) { s with heap := zh5 s.heap A B u v }) :=
  .of_wp fun prog w A' R s h => by
    obtain ⟨hp, g, d, tk, os⟩ := s; obtain ⟨h1, h2, q⟩ := h
    have hs := sub_zip
    have k1 : A.ok (Shared.heap ⟨hp, g, d, tk, os⟩) xs := h1
    have k2 : B.ok (Shared.heap ⟨hp.push (A.obj u), g, d, tk, os⟩) ys := B.okAt h2 fun b _ o e => Heap.get?_push_of_some _ e
    wp_walk using A.pyIter ru k1, B.pyIter rv k2
    exact ⟨_, rfl, q⟩
end L2
set_option Elab.async false
set_option linter.all false
set_option maxRecDepth 100000
namespace L2
open PySem PySem.Spec PyProof.Rows
section
variable {prog : Program} {w : World} {A : Around} {E : Value → Shared → Prop} {s : Shared}
theorem zip_call {S T : Src} {xs ys : List V} {u v : Value} (ru : RelV S.v u) (rv : RelV T.v v) {Q : Value → Shared → Prop} (p1 : S.ok s.heap xs) (p2 : T.ok s.heap ys)
    (q : ∀ h', IsZip h' (s.heap.objs.size + 4) (s.heap.objs.size + 2) (s.heap.objs.size + 3) .none → IsPair h' (s.heap.objs.size + 2) (.ref s.heap.objs.size) (.ref (s.heap.objs.size + 1)) →
      IsPair h' (s.heap.objs.size + 3) .none .none → S.it h' s.heap.objs.size 0 → T.it h' (s.heap.objs.size + 1) 0 → (∀ c o, s.heap.get? c = some o → h'.get? c = some o) → Q (.ref (s.heap.objs.size + 4)) { s with heap := h' }) :
    wpAny (model prog w) A (call (.type "zip") [u, v]) Q E s := by
  refine callType_new PySem.F.called_zip (by decide) (PySem.F.typeCall_zip_2 _ _) (PySem.F.newCall_zip_2 _ _) (fun obj => PySem.F.args_object_init_3 obj _ _) PySem.F.entry_zip_new (zip_new S T ru rv xs ys) ⟨p1, p2, ?_⟩
  have z1 : (zh1 s.heap S u).objs.size = s.heap.objs.size + 1 := Heap.size_push ..
  have z2 : (zh2 s.heap S T u v).objs.size = s.heap.objs.size + 2 := by rw [Heap.size_push, z1]
  have z3 : (zh3 s.heap S T u v).objs.size = s.heap.objs.size + 3 := by rw [Heap.size_push, z2]
  have z4 : (zh4 s.heap S T u v).objs.size = s.heap.objs.size + 4 := by rw [Heap.size_push, z3]
  have g5 : (zh5 s.heap S T u v).get? (zh4 s.heap S T u v).objs.size = some _ := Heap.get?_push_size _ rfl
  have g4 : (zh5 s.heap S T u v).get? (zh3 s.heap S T u v).objs.size = some _ := Heap.get?_push_of_some _ (Heap.get?_push_size _ rfl)
  have g3 : (zh5 s.heap S T u v).get? (zh2 s.heap S T u v).objs.size = some _ := Heap.get?_push_of_some _ (Heap.get?_push_of_some _ (Heap.get?_push_size _ rfl))
  have up : ∀ c o, (zh2 s.heap S T u v).get? c = some o → (zh5 s.heap S T u v).get? c = some o := fun c o e => Heap.get?_push_of_some _ (Heap.get?_push_of_some _ (Heap.get?_push_of_some _ e))
  have t2 : T.it (zh5 s.heap S T u v) (zh1 s.heap S u).objs.size 0 := T.itAt (T.new (h := zh1 s.heap S u) rv) fun o e => up _ o e
  have t1 : S.it (zh5 s.heap S T u v) s.heap.objs.size 0 := S.itAt (S.new (h := s.heap) ru) fun o e => up _ o (Heap.get?_push_of_some _ e)
  show _ ∧ _
  rw [z2, z3, z4] at g5
  rw [z1, z2] at g3
  rw [z3] at g4
  rw [z1] at t2
  rw [z4]
  exact ⟨⟨_, g5, rfl⟩, q _ g5 g3 g4 t1 t2 fun c o e => up _ _ (Heap.get?_push_of_some _ (Heap.get?_push_of_some _ e))⟩
end
def Itz (K : PySem.W.Frag) (S T : Src) : It :=
  ⟨fun i H => ∃ xs ys x y, S.sq K H xs ∧ T.sq K H ys ∧ xs[i]? = some x ∧ ys[i]? = some y,
   fun i H v H' => ∃ p x y, v = .ref p ∧ H p = none ∧ H' = upd H p (.tup [x, y]) ∧ (∀ xs, S.sq K H xs → xs[i]? = some x) ∧ ∀ ys, T.sq K H ys → ys[i]? = some y,
   fun i H => ∃ xs ys, S.sq K H xs ∧ T.sq K H ys ∧ (xs.length ≤ i ∨ ys.length ≤ i)⟩
theorem zapart {n : Nat} {S T : Src} (h1 : ∀ b ∈ S.fp, b < n) (h2 : ∀ b ∈ T.fp, b < n) : ZApart (n + 4) (n + 2) (n + 3) n (n + 1) S.fp T.fp where
  n1 := by (show @Ne Nat _ _; omega)
  n2 := by (show @Ne Nat _ _; omega)
  n3 := by (show @Ne Nat _ _; omega)
  n4 := by (show @Ne Nat _ _; omega)
  n5 := by (show @Ne Nat _ _; omega)
  n6 := by (show @Ne Nat _ _; omega)
  n7 := by (show @Ne Nat _ _; omega)
  n8 := by (show @Ne Nat _ _; omega)
  n9 := by (show @Ne Nat _ _; omega)
  n10 := by (show @Ne Nat _ _; omega)
  fz := fun b hb => by
    have hl : (b : Nat) < n := by
      rcases hb with z | z
      · exact h1 b z
      · exact h2 b z
    exact ⟨fun e => by subst e; exact absurd hl (by show ¬ @LT.lt Nat _ _ _; omega), fun e => by subst e; exact absurd hl (by show ¬ @LT.lt Nat _ _ _; omega), fun e => by subst e; exact absurd hl (by show ¬ @LT.lt Nat _ _ _; omega), fun e => by subst e; exact absurd hl (by show ¬ @LT.lt Nat _ _ _; omega)⟩
theorem turn_zip {P : Program} {w : World} {K : PySem.W.Frag} {elts : List Expr} {x1} {pos : Pos} (S T : Src) (n : Nat) (h1 : ∀ b ∈ S.fp, b < n) (h2 : ∀ b ∈ T.fp, b < n) :
    Turn P w K (.Tuple elts x1 pos) (Itz K S T) [n + 4, n + 2, n + 3, n, n + 1] (n + 4) (fun i h => IsZip h (n + 4) (n + 2) (n + 3) .none ∧ IsPair h (n + 2) (.ref n) (.ref (n + 1)) ∧ (∃ a b, IsPair h (n + 3) a b) ∧ S.it h n i ∧ T.it h (n + 1) i) where
  mem := by simp
  obj := fun i h ⟨z, a, ⟨x, y, b⟩, c, d⟩ q hq => by
    simp only [List.mem_cons, List.not_mem_nil, or_false] at hq
    rcases hq with rfl | rfl | rfl | rfl | rfl
    · exact ⟨_, z, fun v e => nomatch (show Data.fields _ = Data.cell v from e)⟩
    · exact ⟨_, a, fun v e => nomatch (show Data.seq _ _ = Data.cell v from e)⟩
    · exact ⟨_, b, fun v e => nomatch (show Data.seq _ _ = Data.cell v from e)⟩
    · exact S.itOb c
    · exact T.itOb d
  keep := fun i h h' ⟨z, a, ⟨x, y, b⟩, c, d⟩ k => ⟨k _ (by simp) _ z, k _ (by simp) _ a, ⟨x, y, k _ (by simp) _ b⟩, S.itAt c fun o e => k _ (by simp) o e, T.itAt d fun o e => k _ (by simp) o e⟩
  item := by
    intro X hP hw hK hc i pins s σ H E I hf ⟨z, a, ⟨u, v, b⟩, c, d⟩ ⟨xs, ys, x, y, hx, hy, ex, ey⟩
    subst hP hw hK
    obtain ⟨sa, SA, c1, c2⟩ := S.sub (P := X.prog) (w := X.w) (i := n) (S.of I hx)
    obtain ⟨sb, SB, d1, d2⟩ := T.sub (P := X.prog) (w := X.w) (i := n + 1) (T.of I hy)
    have l1 := (List.getElem?_eq_some_iff.mp ex).1
    have l2 := (List.getElem?_eq_some_iff.mp ey).1
    refine zip_item (zapart h1 h2) SA SB z a b (c1 _ c) (d1 _ d) l1 l2 fun x' y' h' tk hx' hy' z' to' c' d' new sz kp => ?_
    obtain ⟨x2, ex2, ru1⟩ := hx'
    obtain ⟨y2, ey2, ru2⟩ := hy'
    rw [ex] at ex2; cases ex2
    rw [ey] at ey2; cases ey2
    have c' := c2 _ _ c'
    have d' := d2 _ _ d'
    refine ⟨_, rfl, wpAny_letOwnedTupleGo_zip z' fun h2' z2 sb => ?_⟩
    have hlt : n + 4 < s.heap.objs.size := Heap.lt_size z
    have up : ∀ q o, q ≠ n + 4 → h'.get? q = some o → h2'.get? q = some o := fun q o hq e => sb.extBut _ _ hq e
    have I1 : Inv X pins σ (upd H s.heap.objs.size (.tup [x, y])) { s with heap := h2', toks := tk } := by
      refine Inv.tok (s := { s with heap := h2' }) ?_ tk
      refine I.yielded hf (fun q o hq e => up q o (fun z => hq (by simp [z])) (kp q o (fun z => hq (by simp [z])) (fun z => hq (by simp [z])) (fun z => hq (by simp [z])) (fun z => hq (by simp [z])) e)) (Nat.le_refl _) ?_
      exact ⟨show 2 ≤ sizeLine by decide, [x', y'], .cons ru1 (.cons ru2 .nil), ⟨_, up _ _ (by (show @Ne Nat _ _; omega)) new, rfl, _, rfl⟩⟩
    refine ⟨.ref s.heap.objs.size, _, I1, rfl, ⟨_, x, y, rfl, I.hok.fresh (Nat.le_refl _), rfl, fun zs hz => by rw [S.inj I hz hx]; exact ex, fun zs hz => by rw [T.inj I hz hy]; exact ey⟩, ⟨z2, up _ _ (by (show @Ne Nat _ _; omega)) (kp _ _ (by (show @Ne Nat _ _; omega)) (by (show @Ne Nat _ _; omega)) (by (show @Ne Nat _ _; omega)) (by (show @Ne Nat _ _; omega)) a), ⟨x', y', up _ _ (by (show @Ne Nat _ _; omega)) to'⟩, S.itAt c' fun o e => up _ o (by (show @Ne Nat _ _; omega)) e, T.itAt d' fun o e => up _ o (by (show @Ne Nat _ _; omega)) e⟩, fun q hq => ?_⟩
    rw [upd_ne]
    · exact (hf q hq).1
    · simp only [List.mem_cons, List.not_mem_nil, or_false] at hq
      rcases hq with rfl | rfl | rfl | rfl | rfl <;> (show @Ne Nat _ _; omega)
  done := by
    intro X hP hw hK hc i pins s σ H E I hf ⟨z, a, ⟨u, v, b⟩, c, d⟩ ⟨xs, ys, hx, hy, hl⟩
    subst hP hw hK
    obtain ⟨sa, SA, c1, c2⟩ := S.sub (P := X.prog) (w := X.w) (i := n) (S.of I hx)
    obtain ⟨sb, SB, d1, d2⟩ := T.sub (P := X.prog) (w := X.w) (i := n + 1) (T.of I hy)
    refine zip_fin (I.ok.hd hc) (zapart h1 h2) SA SB z a b (c1 _ c) (d1 _ d) hl fun h' tk kp => ⟨rfl, Inv.tok (s := { s with heap := h' }) (I.turnedL hf fun q o hq e => kp q o (fun z => hq (by simp [z])) (fun z => hq (by simp [z])) (fun z => hq (by simp [z])) (fun z => hq (by simp [z])) e) tk⟩
  self := fun _ _ _ _ _ ⟨z, _⟩ q => wpAny_pyIter_zip z q
theorem boot_zip' : bootBuiltins "zip" = some (.type "zip") := by decide +kernel
@[simp] def zsItems : D → Option (List D)
  | .lst xs => some xs
  | .tup xs => some xs
  | .str s => some (s.cps.toList.map fun c => .str ⟨#[c]⟩)
  | _ => none
theorem DenQ.src {K : PySem.W.Frag} {M N : Fb} {H : Hp} {d : D} {v : V} {xs : List D} (h : DenQ K M N H d v) (e : zsItems d = some xs) :
    ∃ (S : Src) (vs : List V), v = S.v ∧ DenL K N H xs vs ∧ ∀ N2 H2, Step M N N2 H H2 → S.sq K H2 vs := by
  cases d with
  | lst ys fl =>
    cases fl with
    | true => cases e
    | false =>
    cases e
    obtain ⟨a, vs, e1, hr, hd⟩ := h
    refine ⟨.l a, vs, e1, hd, fun N2 H2 S => ?_⟩
    rcases hr with ⟨hn, hr⟩ | hr
    · exact .inl (hr.step S (by rcases hn with z | z; exact .inl z; exact .inr (.inl z)))
    · exact hr.sq
  | tup ys =>
    cases e
    simp only [DenQ, Den] at h
    obtain ⟨a, vs, e1, hr, hd⟩ := h
    exact ⟨.t a, vs, e1, hd, fun N2 H2 S => hr.step S⟩
  | str s =>
    cases e
    simp only [DenQ, Den] at h
    refine ⟨.x s, chrV s, h, ?_, fun _ _ _ => rfl⟩
    unfold chrV
    generalize s.cps.toList = l
    induction l with
    | nil => exact DenL.nil
    | cons c l ih => exact DenL.cons (by simp only [Den]) ih
  | _ => cases e
@[simp] def zipO (f g : VE → Option D) : VE → Option (List D) := fun ρ => match (f ρ).bind zsItems, (g ρ).bind zsItems with
  | some xs, some ys => some (List.zipWith (fun x y => D.tup [x, y]) xs ys)
  | _, _ => none
theorem zip_ok {K : PySem.W.Frag} {M N : Fb} {H : Hp} {S T : Src} {xs ys : List D} {us vs : List V} (h1 : DenL K N H xs us) (h2 : DenL K N H ys vs) (q1 : ∀ N2 H2, Step M N N2 H H2 → S.sq K H2 us) (q2 : ∀ N2 H2, Step M N N2 H H2 → T.sq K H2 vs) :
    ItOk K M N H (Itz K S T) (List.zipWith (fun x y => D.tup [x, y]) xs ys) := fun N2 H2 St i => by
  have s1 := q1 _ _ St
  have s2 := q2 _ _ St
  have d1 := DenL.step St _ _ h1
  have d2 := DenL.step St _ _ h2
  refine ⟨fun d he => ?_, fun he => ⟨us, vs, s1, s2, ?_⟩⟩
  · rw [List.getElem?_zipWith] at he
    cases ex : xs[i]? with
    | none => rw [ex] at he; cases he
    | some x =>
      cases ey : ys[i]? with
      | none => rw [ex, ey] at he; cases he
      | some y =>
        rw [ex, ey] at he; cases he
        obtain ⟨u, eu, du⟩ := d1.get ex
        obtain ⟨v, ev, dv⟩ := d2.get ey
        refine ⟨⟨us, vs, u, v, s1, s2, eu, ev⟩, fun z H3 ⟨p, u', v', e1, hp, e3, w1, w2⟩ => ?_⟩
        have := w1 us s1; rw [eu] at this; cases this
        have := w2 vs s2; rw [ev] at this; cases this
        subst e1 e3
        exact ⟨same_upd hp, den_newT hp (DenL.cons du (DenL.cons dv DenL.nil))⟩
  · have l1 := h1.length
    have l2 := h2.length
    simp only [List.length_zipWith] at he
    omega
section
variable {X : Cx} {M : Fb} {H0 : Hp} {f g : VE → Option D} {a b : Expr} {elts : List Expr} {p pos tpos : Pos}
theorem vi_zip {x1} (hg : Gl X "zip") (hm : X.mg "zip" = none) (ha : PE X a (tQ X.K M H0 f)) (hb : PE X b (tQ X.K M H0 g)) (hs : starEach [a, b] X.env = [(false, eval a X.env), (false, eval b X.env)] := by rfl) (hs2 : starEach [b] X.env = [(false, eval b X.env)] := by rfl) (hs3 : starEach [] X.env = [] := by rfl) :
    PI X (.Tuple elts x1 tpos) (.Call (.Name "zip" p) [a, b] [] pos) (tI X.K M H0 (zipO f g)) := by
  intro pins s σ H Q I ⟨ρ, ds, R, e, q⟩
  unfold zipO at e
  split at e
  · next xs ys ex ey =>
    cases e
    cases hf : f ρ with
    | none => rw [hf] at ex; cases ex
    | some d1 =>
      cases hgv : g ρ with
      | none => rw [hgv] at ey; cases ey
      | some d2 =>
        rw [hf] at ex
        rw [hgv] at ey
        have PA2 := pa_cons ha (pa_cons hb pa_nil (by rw [hs2, hs3])) (by rw [hs, hs2])
        refine Call_ (ld_blt I hg hm boot_zip' (PyProof.Rows.callWith_type1 (thn (PA2 pos pins s σ H (fun vs H2 => ∃ S T us ws, vs = [Src.v S, Src.v T] ∧ Same H H2 ∧ DenL X.K (Nf M ρ σ) H2 xs us ∧ DenL X.K (Nf M ρ σ) H2 ys ws ∧ (∀ N2 H3, Step M (Nf M ρ σ) N2 H2 H3 → S.sq X.K H3 us) ∧ ∀ N2 H3, Step M (Nf M ρ σ) N2 H2 H3 → T.sq X.K H3 ws) I ?_) fun us s1 ⟨vs, H1, I1, r1, q1⟩ => ?_) (by rw [hs, hs2]) (by rw [hs2]; rfl)))
        · refine ⟨ρ, d1, R, hf, fun v1 H1 z1 q1 => ⟨ρ, d2, R.st z1, hgv, fun v2 H2 z2 q2 => ?_⟩⟩
          obtain ⟨S, us, e1, dl1, k1⟩ := q1.src ex
          obtain ⟨T, ws, e2, dl2, k2⟩ := q2.src ey
          exact ⟨S, T, us, ws, by rw [e1, e2], z1.trans z2, dl1.same z2, dl2, fun N2 H3 St => k1 _ _ ((Step.of_same z2).trans St), k2⟩
        · obtain ⟨S, T, us', ws, e1, z, dl1, dl2, k1, k2⟩ := q1
          subst e1
          cases r1 with
          | cons r rr =>
            cases rr with
            | cons r' rr =>
              cases rr
              have o1 := S.of I1 (k1 _ _ Step.refl)
              have o2 := T.of I1 (k2 _ _ Step.refl)
              refine zip_call r r' o1 o2 fun h' a1 a2 a3 a4 a5 kp => wpAny_pyIter_zip a1 ?_
              refine ⟨_, _, _, _, H1, rfl, I1.kept (t' := s1.toks) kp, turn_zip S T s1.heap.objs.size (S.lt o1) (T.lt o2), ⟨a1, a2, ⟨_, _, a3⟩, a4, a5⟩, fun b hb => ?_, q _ _ z (zip_ok dl1 dl2 k1 k2)⟩
              have hl : s1.heap.objs.size ≤ b := by
                simp only [List.mem_cons, List.not_mem_nil, or_false] at hb
                rcases hb with rfl | rfl | rfl | rfl | rfl <;> (show @LE.le Nat _ _ _; omega)
              exact I1.fpOk hl (I1.hok.fresh hl)
  · cases e
theorem j_vi_zip {x1} (hg : Gl X "zip") (hm : X.mg "zip" = none) (ha : JE X a (tQ X.K M H0 f)) (hb : JE X b (tQ X.K M H0 g)) (hs : starEach [a, b] X.env = [(false, eval a X.env), (false, eval b X.env)] := by rfl) (hs2 : starEach [b] X.env = [(false, eval b X.env)] := by rfl) (hs3 : starEach [] X.env = [] := by rfl) :
    JI X (.Tuple elts x1 tpos) (.Call (.Name "zip" p) [a, b] [] pos) (tI X.K M H0 (zipO f g)) := ⟨vi_zip hg hm ha.h hb.h hs hs2 hs3⟩
end
end L2
set_option Elab.async false
set_option linter.all false
set_option maxRecDepth 100000
namespace L2
open PySem PySem.Spec PyProof.Rows
abbrev T3 := KT × V × V
def flat3 : List T3 → List V
  | [] => []
  | t :: r => t.2.1 :: t.2.2 :: flat3 r
def val3 : List T3 → KT → Option V
  | [], _ => none
  | t :: r, k => if t.1 = k then some t.2.2 else val3 r k
def rep3 : List T3 → KT → V → List T3
  | [], _, _ => []
  | t :: r, k, v => (if t.1 = k then (t.1, t.2.1, v) else t) :: rep3 r k v
def put3 (tr : List T3) (k : KT) (kv v : V) : List T3 := if (val3 tr k).isSome = true then rep3 tr k v else tr ++ [(k, kv, v)]
abbrev RA : List T3 → List (At × Value) → Prop := Paired fun t u => t.1 = .at u.1 ∧ t.2.1 = atV u.1 ∧ RelV t.2.2 u.2
theorem RA.val : ∀ {tr : List T3} {us : List (At × Value)}, RA tr us → ∀ a, RelO (val3 tr (.at a)) (valueAt us a)
  | _, _, .nil, _ => True.intro
  | t :: r, u :: us, .cons ⟨h1, h2, h3⟩ hr, a => by
    have ih := RA.val hr a
    unfold val3 valueAt
    rw [h1, List.find?_cons]
    by_cases e : u.1 = a
    · rw [if_pos (by rw [e])]; simp only [e, decide_true]; exact h3
    · rw [if_neg (fun z => e (KT.at.inj z))]; simp only [e, decide_false]; exact ih
theorem RelO.isS : ∀ {o : Option V} {u : Option Value}, RelO o u → o.isSome = u.isSome
  | some _, some _, _ => rfl
  | none, none, _ => rfl
  | some _, none, h => h.elim
  | none, some _, h => h.elim
theorem RA.rep {a : At} {v : V} {u : Value} (rv : RelV v u) : ∀ {tr : List T3} {us : List (At × Value)}, RA tr us → RA (rep3 tr (.at a) v) (us.map fun kv => if kv.1 = a then (kv.1, u) else kv)
  | _, _, .nil => .nil
  | t :: r, w :: us, .cons ⟨h1, h2, h3⟩ hr => by
    have ih := RA.rep (a := a) rv hr
    unfold rep3
    rw [List.map_cons]
    refine .cons ?_ ih
    by_cases e : w.1 = a
    · rw [if_pos (by rw [h1, e]), if_pos e]; exact ⟨h1, h2, rv⟩
    · rw [if_neg (fun z => e (KT.at.inj (h1.symm.trans z))), if_neg e]; exact ⟨h1, h2, h3⟩
theorem Paired.snoc' {α β : Type} {F : α → β → Prop} {x : α} {y : β} (h : F x y) : ∀ {l : List α} {m : List β}, Paired F l m → Paired F (l ++ [x]) (m ++ [y])
  | _, _, .nil => .cons h .nil
  | _, _, .cons r t => .cons r (Paired.snoc' h t)
theorem any_val {us : List (At × Value)} {a : At} : (us.any fun kv => decide (kv.1 = a)) = (valueAt us a).isSome := by
  unfold valueAt
  rw [Option.isSome_map]
  induction us with
  | nil => rfl
  | cons x r ih =>
    rw [List.any_cons, List.find?_cons]
    cases decide (x.1 = a) with
    | true => rfl
    | false => simpa using ih
theorem RA.put {tr : List T3} {us : List (At × Value)} {a : At} {v : V} {u : Value} (h : RA tr us) (rv : RelV v u) : RA (put3 tr (.at a) (atV a) v) (stored us a u) := by
  unfold put3 stored
  rw [any_val, (h.val a).isS]
  by_cases e : (valueAt us a).isSome = true
  · rw [if_pos e, if_pos e]; exact h.rep rv
  · rw [if_neg e, if_neg e]; exact Paired.snoc' ⟨rfl, rfl, rv⟩ h
theorem RA.fst : ∀ {tr : List T3} {us : List (At × Value)}, RA tr us → tr.map (·.1) = (us.map (·.1)).map KT.at
  | _, _, .nil => rfl
  | t :: r, u :: us, .cons ⟨h1, _, _⟩ hr => by rw [List.map_cons, List.map_cons, List.map_cons, h1, RA.fst hr]
abbrev RT : List T3 → List (List At × Addr × Value) → Prop := Paired fun t u => t.1 = .tup u.1 ∧ t.2.1 = .ref u.2.1 ∧ RelV t.2.2 u.2.2
theorem RT.val : ∀ {tr : List T3} {us : List (List At × Addr × Value)}, RT tr us → ∀ l, RelO (val3 tr (.tup l)) ((atKey us l).map (·.2))
  | _, _, .nil, _ => True.intro
  | t :: r, u :: us, .cons ⟨h1, h2, h3⟩ hr, l => by
    have ih := RT.val hr l
    unfold val3 atKey
    rw [h1, List.find?_cons]
    by_cases e : u.1 = l
    · rw [if_pos (by rw [e])]; simp only [e, decide_true]; exact h3
    · rw [if_neg (fun z => e (KT.tup.inj z))]; simp only [e, decide_false]; exact ih
theorem RT.rep {l : List At} {v : V} {u : Value} (rv : RelV v u) : ∀ {tr : List T3} {us : List (List At × Addr × Value)}, RT tr us → RT (rep3 tr (.tup l) v) (us.map (putAt l u))
  | _, _, .nil => .nil
  | t :: r, w :: us, .cons ⟨h1, h2, h3⟩ hr => by
    have ih := RT.rep (l := l) rv hr
    unfold rep3
    rw [List.map_cons]
    refine .cons ?_ ih
    unfold putAt
    by_cases e : w.1 = l
    · rw [if_pos (by rw [h1, e]), if_pos e]; exact ⟨h1, h2, rv⟩
    · rw [if_neg (fun z => e (KT.tup.inj (h1.symm.trans z))), if_neg e]; exact ⟨h1, h2, h3⟩
theorem RT.put {tr : List T3} {us : List (List At × Addr × Value)} {l : List At} {p : Addr} {v : V} {u : Value} (h : RT tr us) (rv : RelV v u) : RT (put3 tr (.tup l) (.ref p) v) (storedH us l p u) := by
  unfold put3 storedH
  have e0 := (h.val l).isS
  rw [Option.isSome_map] at e0
  rw [e0]
  by_cases e : (atKey us l).isSome = true
  · rw [if_pos e, if_pos e]; exact h.rep rv
  · rw [if_neg e, if_neg e]; exact Paired.snoc' ⟨rfl, rfl, rv⟩ h
theorem RT.fst : ∀ {tr : List T3} {us : List (List At × Addr × Value)}, RT tr us → tr.map (·.1) = (us.map (·.1)).map KT.tup
  | _, _, .nil => rfl
  | t :: r, u :: us, .cons ⟨h1, _, _⟩ hr => by rw [List.map_cons, List.map_cons, List.map_cons, h1, RT.fst hr]
def KeyV (K : PySem.W.Frag) (H : Hp) : KT → V → Prop
  | .at a, v => v = atV a
  | .tup l, v => ∃ p, v = .ref p ∧ SqT K H p (l.map atV)
def IsDc (K : PySem.W.Frag) (H : Hp) (a : Addr) (tr : List T3) : Prop := Rd H a (.dct (tr.map (·.1)) (flat3 tr)) ∧ ∀ t ∈ tr, KeyV K H t.1 t.2.1
section
variable {X : Cx} {pins : List (Addr × Obj)} {σ : St} {H : Hp} {s : Shared} {a p : Addr} {y v : V} {u r : Value} {o : Option V} {A : Around} {E : Value → Shared → Prop} {tr : List T3} {k : KT}
theorem RelO.to : ∀ {v : V} {o : Option Value}, RelO (some v) o → ∃ w, o = some w ∧ RelV v w
  | _, some w, h => ⟨w, rfl, h⟩
  | _, none, h => h.elim
end
end L2
set_option Elab.async false
set_option linter.all false
set_option maxRecDepth 100000
namespace PySem
section
variable {prog : Program} {w : World} {K : Type} [DecidableEq K] {knd : HeapKind prog w K} {A : Around} {E : Value → Shared → Prop} {s : Shared}
end
end PySem
namespace L2
open PySem PySem.Spec PyProof.Rows
theorem IsDc.typeIs {X : Cx} {pins : List (Addr × Obj)} {σ : St} {H : Hp} {s : Shared} {a : Addr} {tr : List T3} (I : Inv X pins σ H s) (h : IsDc X.K H a tr) : s.TypeIs (.ref a) "dict" := by
  obtain ⟨_, _, _, o, _, _, e, c, _⟩ := h.1.ok I.hok
  exact ⟨o, e, c.1⟩
section
variable {X : Cx}
theorem Inv.big (I : Inv X pins σ H s) : sysModules < s.heap.objs.size := by
  have h : mainGlobals < s.heap.objs.size := (I.mod.glob.keeps I.bk).lt
  exact Nat.lt_trans (by decide) h
end
def okA : D → Option At
  | .non => some .non
  | .int i => some (.int i)
  | .str x => some (.str x)
  | _ => none
def okAs : List D → Option (List At)
  | [] => some []
  | d :: r => (okA d).bind fun a => (okAs r).map (a :: ·)
def okK : D → Option KT
  | .tup l => (okAs l).map KT.tup
  | d => (okA d).map KT.at
def aD : At → D
  | .non => .non
  | .int i => .int i
  | .str x => .str x
def kD : KT → D
  | .at a => aD a
  | .tup l => .tup (l.map aD)
theorem okA_aD (a : At) : okA (aD a) = some a := by cases a <;> rfl
theorem okAs_map : ∀ (l : List At), okAs (l.map aD) = some l
  | [] => rfl
  | a :: l => by rw [List.map_cons]; unfold okAs; rw [okA_aD, okAs_map l]; rfl
@[simp] theorem okK_kD (k : KT) : okK (kD k) = some k := by
  cases k with
  | «at» a => cases a <;> rfl
  | tup l => show (okAs (l.map aD)).map KT.tup = _; rw [okAs_map]; rfl
@[simp] theorem okK_non : okK .non = some (.at .non) := rfl
@[simp] theorem okK_int (i : Int) : okK (.int i) = some (.at (.int i)) := rfl
@[simp] theorem okK_str (x : Str) : okK (.str x) = some (.at (.str x)) := rfl
abbrev KDs := List (KT × D)
def flatD : KDs → List D
  | [] => []
  | p :: r => kD p.1 :: p.2 :: flatD r
def unf : List D → Option KDs
  | [] => some []
  | k :: v :: r => (okK k).bind fun kt => (unf r).map ((kt, v) :: ·)
  | _ => none
@[simp] theorem unf_flat : ∀ kvs : KDs, unf (flatD kvs) = some kvs
  | [] => rfl
  | p :: r => by unfold flatD unf; rw [okK_kD, unf_flat r]; rfl
@[simp] theorem unf_nil : unf [] = some [] := rfl
def valL : KDs → KT → Option D
  | [], _ => none
  | t :: r, k => if t.1 = k then some t.2 else valL r k
def repL : KDs → KT → D → KDs
  | [], _, _ => []
  | t :: r, k, v => (if t.1 = k then (t.1, v) else t) :: repL r k v
def putL (kvs : KDs) (k : KT) (v : D) : KDs := if (valL kvs k).isSome = true then repL kvs k v else kvs ++ [(k, v)]
def isAt : KT → Bool
  | .at _ => true
  | _ => false
def homL (k : KT) (kvs : KDs) : Bool := kvs.all fun p => isAt p.1 == isAt k
section
variable {K : PySem.W.Frag} {N : Fb} {H : Hp}
abbrev PD (K : PySem.W.Frag) (N : Fb) (H : Hp) : KDs → List T3 → Prop := Paired fun p t => p.1 = t.1 ∧ Den K N H (kD p.1) t.2.1 ∧ Den K N H p.2 t.2.2
theorem den_at {a : At} {v : V} (h : Den K N H (aD a) v) : v = atV a := by cases a <;> simpa only [aD, Den, atV] using h
theorem denL_at : ∀ {l : List At} {vs : List V}, DenL K N H (l.map aD) vs → vs = l.map atV
  | [], _, h => by simpa only [List.map_nil, DenL] using h
  | a :: l, vs, h => by
    simp only [List.map_cons, DenL] at h
    obtain ⟨v, r, e, h1, h2⟩ := h
    rw [e, den_at h1, denL_at h2]; rfl
theorem den_key {k : KT} {v : V} (h : Den K N H (kD k) v) : KeyV K H k v := by
  cases k with
  | «at» a => exact den_at h
  | tup l =>
    simp only [kD, Den] at h
    obtain ⟨p, vs, e, sq, hl⟩ := h
    rw [denL_at hl] at sq
    exact ⟨p, e, sq⟩
theorem PD.fst : ∀ {kvs : KDs} {tr : List T3}, PD K N H kvs tr → kvs.map (·.1) = tr.map (·.1)
  | _, _, .nil => rfl
  | _, _, .cons ⟨h1, _, _⟩ t => by rw [List.map_cons, List.map_cons, h1, PD.fst t]
theorem PD.keys : ∀ {kvs : KDs} {tr : List T3}, PD K N H kvs tr → ∀ t ∈ tr, KeyV K H t.1 t.2.1
  | _, _, .nil, _, h => nomatch h
  | _, _, .cons ⟨h1, h2, _⟩ t, x, hx => by
    rcases List.mem_cons.mp hx with rfl | hx
    · rw [← h1]; exact den_key h2
    · exact PD.keys t x hx
def RelD (K : PySem.W.Frag) (N : Fb) (H : Hp) : Option D → Option V → Prop
  | some d, some v => Den K N H d v
  | none, none => True
  | _, _ => False
theorem PD.val : ∀ {kvs : KDs} {tr : List T3}, PD K N H kvs tr → ∀ k, RelD K N H (valL kvs k) (val3 tr k)
  | _, _, .nil, _ => True.intro
  | p :: kvs, t :: tr, .cons ⟨h1, _, h2⟩ r, k => by
    have ih := PD.val r k
    unfold valL val3
    rw [h1]
    split
    · exact h2
    · exact ih
theorem RelD.isS : ∀ {o : Option D} {u : Option V}, RelD K N H o u → o.isSome = u.isSome
  | some _, some _, _ => rfl
  | none, none, _ => rfl
  | some _, none, h => h.elim
  | none, some _, h => h.elim
theorem PD.rep {k : KT} {d : D} {v : V} (hd : Den K N H d v) : ∀ {kvs : KDs} {tr : List T3}, PD K N H kvs tr → PD K N H (repL kvs k d) (rep3 tr k v)
  | _, _, .nil => .nil
  | p :: kvs, t :: tr, .cons ⟨h1, h2, h3⟩ r => by
    have ih := PD.rep (k := k) hd r
    unfold repL rep3
    rw [h1]
    refine .cons ?_ ih
    split
    · exact ⟨rfl, h1 ▸ h2, hd⟩
    · exact ⟨h1, h2, h3⟩
theorem PD.put {kvs : KDs} {tr : List T3} {k : KT} {d : D} {kv v : V} (h : PD K N H kvs tr) (hk : Den K N H (kD k) kv) (hd : Den K N H d v) : PD K N H (putL kvs k d) (put3 tr k kv v) := by
  unfold putL put3
  rw [(h.val k).isS]
  split
  · exact h.rep hd
  · exact Paired.snoc' ⟨rfl, hk, hd⟩ h
end
def dgetD : D → D → Option D
  | .lst xs true, y => (unf xs).bind fun kvs => (okK y).bind fun k => if homL k kvs then valL kvs k else none
  | _, _ => none
@[simp] theorem dgetD_flat (kvs : KDs) (y : D) : dgetD (.lst (flatD kvs) true) y = (okK y).bind fun k => if homL k kvs then valL kvs k else none := by simp [dgetD]
@[simp] theorem dgetD_nil (y : D) : dgetD (.lst [] true) y = (okK y).bind fun k => none := by simp [dgetD, valL]
def dinD (neg : Bool) : D → D → Option D
  | y, .lst xs true => (unf xs).bind fun kvs => (okK y).bind fun k => if homL k kvs then some (.bl (neg != (valL kvs k).isSome)) else none
  | _, _ => none
@[simp] theorem dinD_flat (neg : Bool) (kvs : KDs) (y : D) : dinD neg y (.lst (flatD kvs) true) = (okK y).bind fun k => if homL k kvs then some (.bl (neg != (valL kvs k).isSome)) else none := by simp [dinD]
@[simp] theorem dinD_nil (neg : Bool) (y : D) : dinD neg y (.lst [] true) = (okK y).bind fun k => some (.bl neg) := by simp [dinD, valL, homL]
section
variable {X : Cx} {K : PySem.W.Frag} {M : Fb} {H0 : Hp} {e a b : Expr} {f g : VE → Option D} {pos : Pos}
def dlenD : List D → Option D
  | [.lst xs true] => (unf xs).bind fun kvs => if kvs.all (fun p => isAt p.1) then some (.int kvs.length) else none
  | _ => none
@[simp] theorem dlenD_flat (kvs : KDs) : dlenD [.lst (flatD kvs) true] = if kvs.all (fun p => isAt p.1) then some (.int kvs.length) else none := by simp [dlenD]
end
end L2
set_option Elab.async false
set_option linter.all false
set_option maxRecDepth 100000
namespace L2
open PySem PySem.Spec PyProof.Rows
end L2
set_option Elab.async false
set_option linter.all false
set_option maxRecDepth 100000
namespace L2
open PySem PySem.Spec PyProof.Rows
section
variable {X : Cx} {K : PySem.W.Frag} {M : Fb} {H0 : Hp} {e a b ek ev : Expr} {f g fk fv : VE → Option D} {fx : VE → Option (D × VE)} {pos : Pos}
def isBD : D → D → Option D
  | .bl i, .bl j => some (.bl (decide (i = j)))
  | _, _ => none
@[simp] theorem isBD_b (i j : Bool) : isBD (.bl i) (.bl j) = some (.bl (decide (i = j))) := rfl
end
end L2
set_option Elab.async false
set_option linter.all false
set_option maxRecDepth 100000
namespace L2
open PySem PySem.Spec PyProof.Rows
section
variable {X : Cx} {K : PySem.W.Frag}
noncomputable def zfillD (z : Str) : List D → Option D
  | [.int i] => gd (0 ≤ i ∧ i < 1000000) (some (.str (Txt.zfill z i)))
  | _ => none
@[simp] theorem zfillD_eq (z : Str) (i : Int) (h0 : 0 ≤ i) (h1 : i < 1000000) : zfillD z [.int i] = some (.str (Txt.zfill z i)) := by
  unfold zfillD
  exact gd_pos ⟨h0, h1⟩
@[simp] def startswithD (z : Str) : List D → Option D
  | [.str y] => some (.bl (Txt.startswith z y))
  | _ => none
end
end L2
set_option Elab.async false
set_option linter.all false
set_option maxRecDepth 100000
namespace L2
open PySem PySem.Spec PyProof.Rows
section
variable {X : Cx} {K : PySem.W.Frag} {M : Fb} {H0 : Hp} {st : Stmt}
@[simp] def altR (c : Bool) (a b : Res) : Res := if c = true then a else b
theorem j_vs_alt {g1 g2 : VE → Res} (c : VE → Bool) (h1 : JS X st (tS K M H0 g1)) (h2 : JS X st (tS K M H0 g2)) : JS X st (tS K M H0 fun ρ => altR (c ρ) (g1 ρ) (g2 ρ)) := ⟨fun pins s σ H D I ⟨ρ, R, q⟩ => by
  dsimp only [altR] at q
  split at q
  · exact h1.h pins s σ H D I ⟨ρ, R, q⟩
  · exact h2.h pins s σ H D I ⟨ρ, R, q⟩⟩
@[simp] def isOwn (i : Nat) (ρ : VE) : Bool := match ρ[i]? with
  | some (.own _ false) => true
  | _ => false
end
end L2
set_option Elab.async false
set_option linter.all false
set_option maxRecDepth 100000
namespace L2
open PySem PySem.Spec PyProof.Rows PySem.W
section
variable (lt : Nat → Nat → Bool)
structure WO (n : Nat) : Prop where
  asym : ∀ a b, a < n → b < n → lt a b = true → lt b a = false
  neg : ∀ a b c, a < n → b < n → c < n → lt a c = true → lt a b = true ∨ lt b c = true
def le' (a b : Nat) : Prop := lt b a = false
end
section
variable {lt : Nat → Nat → Bool} {n : Nat} (W : WO lt n)
include W
theorem WO.refl {a : Nat} (ha : a < n) : le' lt a a := by
  unfold le'
  cases h : lt a a with
  | false => rfl
  | true => have := W.asym a a ha ha h; rw [h] at this; cases this
theorem WO.trans {a b c : Nat} (ha : a < n) (hb : b < n) (hc : c < n) (h1 : le' lt a b) (h2 : le' lt b c) : le' lt a c := by
  unfold le' at *
  cases h : lt c a with
  | false => rfl
  | true =>
    rcases W.neg c b a hc hb ha h with z | z
    · rw [z] at h2; cases h2
    · rw [z] at h1; cases h1
end
abbrev pvA (p : Array Nat) (i : Nat) : Nat := p.getD i 0
def SoTo (lt : Nat → Nat → Bool) (p : Array Nat) (k : Nat) : Prop := ∀ i j, i ≤ j → j < k → le' lt (pvA p i) (pvA p j)
def Bs (n : Nat) (p : Array Nat) : Prop := p.Perm (List.range n).toArray
theorem Bs.size {n : Nat} {p : Array Nat} (h : Bs n p) : p.size = n := by have := h.size_eq; simpa using this
theorem Bs.lt {n : Nat} {p : Array Nat} (h : Bs n p) {i : Nat} (hi : i < n) : pvA p i < n := by
  have hs := h.size
  have hi' : i < p.size := by omega
  have hm : p[i] ∈ p := Array.getElem_mem hi'
  have := (h.mem_iff (a := p[i])).mp hm
  simp at this
  unfold pvA
  rw [Array.getD_eq_getD_getElem?, Array.getElem?_eq_getElem hi']
  exact this
theorem pvA_of {p q : Array Nat} {i j : Nat} (h : p[i]? = q[j]?) : pvA p i = pvA q j := by
  unfold pvA
  rw [Array.getD_eq_getD_getElem?, Array.getD_eq_getD_getElem?, h]
theorem pvA_rev {p : Array Nat} {i j : Nat} (hj : j ≤ p.size) (k : Nat) : pvA (kas_rev p i j) k = if i ≤ k ∧ k < j then pvA p (i + j - 1 - k) else pvA p k := by
  have := getElem?_mirror_all (xs := p) (i := i) (j := j) hj k
  by_cases h : i ≤ k ∧ k < j
  · rw [if_pos h] at this ⊢; exact pvA_of this
  · rw [if_neg h] at this ⊢; exact pvA_of this
theorem pvA_bub {p : Array Nat} {k d : Nat} (hk : k < p.size) (hd : d ≤ k) (i : Nat) : pvA (bubble p k d) i = if i = k - d then pvA p k else if k - d < i ∧ i ≤ k then pvA p (i - 1) else pvA p i := by
  have := getElem?_bubble (xs := p) (src := k) hk d hd i
  by_cases h : i = k - d
  · rw [if_pos h] at this ⊢; exact pvA_of this
  · rw [if_neg h] at this ⊢
    by_cases h2 : k - d < i ∧ i ≤ k
    · rw [if_pos h2] at this ⊢; exact pvA_of this
    · rw [if_neg h2] at this ⊢; exact pvA_of this
theorem Bs.rev {n : Nat} {p : Array Nat} (h : Bs n p) (i j : Nat) : Bs n (kas_rev p i j) := (mirror_perm p i j _).trans h
theorem Bs.bub {n : Nat} {p : Array Nat} (h : Bs n p) (k d : Nat) : Bs n (bubble p k d) := (bubble_perm p k d).trans h
section
variable {lt : Nat → Nat → Bool} {n : Nat} (W : WO lt n) {cmp : Nat → Nat → (Bool → Shared → Prop) → Shared → Prop} {s : Shared} (hc : ∀ i j C, i < n → j < n → C (lt i j) s → cmp i j C s)
include W hc
end
end L2
set_option Elab.async false
set_option linter.all false
set_option maxRecDepth 100000
namespace L2
open PySem PySem.Spec PyProof.Rows PySem.W
def gallop' : Bool → Keyed → Array Keyed → Nat → Nat → Nat → StateT SortSt Sem (Option Nat) := sortPriv% PySem.Builtin.gallop
def beyond' (left : Bool) (key : Keyed) (arr : Array Keyed) (base i : Nat) : StateT SortSt Sem (Option Bool) := do
  let x ← elem' arr (base + i)
  if left then lt' x key else return (← lt' key x).map (!·)
def gEnd (left : Bool) (key : Keyed) (arr : Array Keyed) (base n lo hi : Nat) : StateT SortSt Sem (Option Nat) := do
  let mut lo := lo
  let mut hi := hi
  for _ in [0:n] do
    if lo ≥ hi then break
    let m := lo + (hi - lo) / 2
    let some more ← beyond' left key arr base m | return none
    if more then lo := m + 1 else hi := m
  return some hi
theorem gallop'_eq (left : Bool) (key : Keyed) (arr : Array Keyed) (base n hint : Nat) : gallop' left key arr base n hint = (do
  let mut lastofs := 0
  let mut ofs := 1
  let some right ← beyond' left key arr base hint | return none
  if right then
    let maxofs := n - hint
    for _ in [0:n] do
      if ofs ≥ maxofs then break
      let some more ← beyond' left key arr base (hint + ofs) | return none
      if !more then break
      lastofs := ofs
      ofs := 2 * ofs + 1
    gEnd left key arr base n (hint + lastofs + 1) (hint + min ofs maxofs)
  else
    let maxofs := hint + 1
    for _ in [0:n] do
      if ofs ≥ maxofs then break
      let some found ← beyond' left key arr base (hint - ofs) | return none
      if found then break
      lastofs := ofs
      ofs := 2 * ofs + 1
    gEnd left key arr base n (hint + 1 - min ofs maxofs) (hint - lastofs)) := rfl
def Lo (n : Nat) (p : Array Nat) : Prop := ∀ i, i < p.size → pvA p i < n
section
variable {prog : Program} {w : World} {A : Around} {E : Value → Shared → Prop} {s : Shared} {κ : SortKind} {item : Nat → Keyed} {r : Nat → Nat} {n : Nat}
def Cmp (prog : Program) (w : World) (A : Around) (E : Value → Shared → Prop) (s : Shared) (κ : SortKind) (item : Nat → Keyed) (r : Nat → Nat) (n : Nat) : Prop :=
  ∀ (i j : Nat), i < n → j < n → ∀ (Q : Option Bool → SortSt → Prop) (st : SortSt), kindOf st = κ → Q (some (decide (r i < r j))) st → wpS (model prog w) A E s (lt' (item i) (item j)) Q st
theorem elem_ok {p : Array Nat} {i : Nat} (hi : i < p.size) {Q : Keyed → SortSt → Prop} {st : SortSt} (h : Q (item (pvA p i)) st) : wpS (model prog w) A E s (elem' (p.map item) i) Q st := by
  rw [elem'_eq]
  have e : (p.map item)[i]? = some (item (pvA p i)) := by
    have e : pvA p i = p[i] := by simp [pvA, Array.getD, hi]
    rw [e]; simp [hi]
  rw [e]
  exact wpS_pure h
variable (H : Cmp prog w A E s κ item r n)
include H
theorem beyond_ok {left : Bool} {k : Nat} {p : Array Nat} {base i : Nat} (hk : k < n) (hp : Lo n p) (hi : base + i < p.size) {Q : Option Bool → SortSt → Prop} {st : SortSt} (hK : kindOf st = κ)
    (h : Q (some (decide (r (pvA p (base + i)) < if left then r k else r k + 1))) st) : wpS (model prog w) A E s (beyond' left (item k) (p.map item) base i) Q st := by
  unfold beyond'
  refine wpS_bind (elem_ok hi ?_)
  cases left with
  | true => exact H _ _ (hp _ hi) hk _ _ hK h
  | false =>
    refine wpS_bind (H _ _ hk (hp _ hi) _ _ hK (wpS_pure ?_))
    have e : (some (decide (r k < r (pvA p (base + i))))).map (!·) = some (decide (r (pvA p (base + i)) < r k + 1)) := by
      simp only [Option.map_some]
      congr 1
      by_cases h : r k < r (pvA p (base + i))
      · rw [decide_eq_true h, decide_eq_false (by omega)]; rfl
      · rw [decide_eq_false h, decide_eq_true (by omega)]; rfl
    rw [e]
    exact h
theorem gEnd_ok {left : Bool} {k : Nat} {p : Array Nat} {base m lo hi : Nat} (hk : k < n) (hp : Lo n p) (hb : base + m ≤ p.size) (hs : ∀ i j, i ≤ j → j < m → r (pvA p (base + i)) ≤ r (pvA p (base + j)))
    {c : Nat} (hc : c = if left then r k else r k + 1) (h1 : lo ≤ hi) (h2 : hi ≤ m) (h3 : ∀ i, i < lo → r (pvA p (base + i)) < c) (h4 : ∀ i, hi ≤ i → i < m → ¬ r (pvA p (base + i)) < c)
    {Q : Option Nat → SortSt → Prop} {st : SortSt} (hK : kindOf st = κ)
    (h : ∀ t, t ≤ m → (∀ i, i < t → r (pvA p (base + i)) < c) → (∀ i, t ≤ i → i < m → ¬ r (pvA p (base + i)) < c) → Q (some t) st) : wpS (model prog w) A E s (gEnd left (item k) (p.map item) base m lo hi) Q st := by
  unfold gEnd
  dsimp only
  refine wpS_bind (wpS_mono (wpS_forRange (I := fun x b st' => st' = st ∧ ∃ l u, b = (none, l, u) ∧ l ≤ u ∧ u ≤ m ∧ u - l ≤ m - x ∧ (∀ i, i < l → r (pvA p (base + i)) < c) ∧ (∀ i, u ≤ i → i < m → ¬ r (pvA p (base + i)) < c))
    (Q := fun b st' => st' = st ∧ ∃ l u, b = (none, l, u) ∧ u ≤ m ∧ (∀ i, i < u → r (pvA p (base + i)) < c) ∧ (∀ i, u ≤ i → i < m → ¬ r (pvA p (base + i)) < c)) ?_ ?_ ⟨rfl, lo, hi, rfl, h1, h2, by omega, h3, h4⟩) ?_)
  · rintro x b st' _ hx ⟨rfl, l, u, rfl, a1, a2, a3, a4, a5⟩
    dsimp only
    by_cases hl : l ≥ u
    · rw [if_pos hl]
      exact wpS_pure ⟨rfl, l, u, rfl, a2, fun i hi => a4 i (by omega), a5⟩
    · rw [if_neg hl]
      refine wpS_bind (beyond_ok H hk hp (by omega) hK ?_)
      rw [← hc]
      by_cases hq : r (pvA p (base + (l + (u - l) / 2))) < c
      · simp only [hq, decide_true, if_true]
        exact wpS_pure ⟨rfl, _, _, rfl, by omega, by omega, by omega, fun i hi => Nat.lt_of_le_of_lt (hs i (l + (u - l) / 2) (by omega) (by omega)) hq, a5⟩
      · simp only [hq, decide_false, Bool.false_eq_true, if_false]
        exact wpS_pure ⟨rfl, _, _, rfl, by omega, by omega, by omega, a4, fun i h1 h2 => by have := hs (l + (u - l) / 2) i (by omega) (by omega); omega⟩
  · rintro b st' ⟨rfl, l, u, rfl, a1, a2, a3, a4, a5⟩
    exact ⟨rfl, l, u, rfl, a2, fun i hi => a4 i (by omega), a5⟩
  · rintro b st' ⟨rfl, l, u, rfl, a2, a4, a5⟩
    exact wpS_pure (h u a2 a4 a5)
theorem gallop_ok {left : Bool} {k : Nat} {p : Array Nat} {base m hint : Nat} (hk : k < n) (hp : Lo n p) (hb : base + m ≤ p.size) (hh : hint < m) (hs : ∀ i j, i ≤ j → j < m → r (pvA p (base + i)) ≤ r (pvA p (base + j)))
    {Q : Option Nat → SortSt → Prop} {st : SortSt} (hK : kindOf st = κ)
    (h : ∀ t, t ≤ m → (∀ i, i < t → r (pvA p (base + i)) < if left then r k else r k + 1) → (∀ i, t ≤ i → i < m → ¬ r (pvA p (base + i)) < if left then r k else r k + 1) → Q (some t) st) : wpS (model prog w) A E s (gallop' left (item k) (p.map item) base m hint) Q st := by
  rw [gallop'_eq]
  obtain ⟨c, hc⟩ : ∃ c, c = if left then r k else r k + 1 := ⟨_, rfl⟩
  rw [← hc] at h
  dsimp only
  refine wpS_bind (beyond_ok H hk hp (by omega) hK ?_)
  rw [← hc]
  by_cases hq : r (pvA p (base + hint)) < c
  · simp only [hq, decide_true, if_true]
    refine wpS_bind (wpS_mono (wpS_forRange (I := fun x b st' => st' = st ∧ ∃ l o, b = (none, l, o) ∧ l < o ∧ l < m - hint ∧ x + 1 ≤ o ∧ r (pvA p (base + (hint + l))) < c)
      (Q := fun b st' => st' = st ∧ ∃ l o, b = (none, l, o) ∧ l < o ∧ l < m - hint ∧ r (pvA p (base + (hint + l))) < c ∧ (o < m - hint → ¬ r (pvA p (base + (hint + o))) < c)) ?_ ?_ ⟨rfl, 0, 1, rfl, by omega, by omega, by omega, hq⟩) ?_)
    · rintro x b st' _ hx ⟨rfl, l, o, rfl, a1, a2, a3, a4⟩
      dsimp only
      by_cases ho : o ≥ m - hint
      · rw [if_pos ho]
        exact wpS_pure ⟨rfl, l, o, rfl, a1, a2, a4, fun h => by omega⟩
      · rw [if_neg ho]
        refine wpS_bind (beyond_ok H hk hp (by omega) hK ?_)
        rw [← hc]
        by_cases hz : r (pvA p (base + (hint + o))) < c
        · simp only [hz, decide_true, Bool.not_true, Bool.false_eq_true, if_false]
          exact wpS_pure ⟨rfl, _, _, rfl, by omega, by omega, by omega, hz⟩
        · simp only [hz, decide_false, Bool.not_false, if_true]
          exact wpS_pure ⟨rfl, l, o, rfl, a1, a2, a4, fun _ => hz⟩
    · rintro b st' ⟨rfl, l, o, rfl, a1, a2, a3, a4⟩
      exact ⟨rfl, l, o, rfl, a1, a2, a4, fun h => by omega⟩
    · rintro b st' ⟨rfl, l, o, rfl, a1, a2, a4, a5⟩
      dsimp only
      refine gEnd_ok H hk hp hb hs hc (by omega) (by omega) (fun i hi => Nat.lt_of_le_of_lt (hs i (hint + l) (by omega) (by omega)) a4) (fun i h1 h2 => ?_) hK h
      have h3 : o < m - hint := by omega
      have := a5 h3
      have := hs (hint + o) i (by omega) h2
      omega
  · simp only [hq, decide_false, Bool.false_eq_true, if_false]
    refine wpS_bind (wpS_mono (wpS_forRange (I := fun x b st' => st' = st ∧ ∃ l o, b = (none, l, o) ∧ l < o ∧ l < hint + 1 ∧ x + 1 ≤ o ∧ ¬ r (pvA p (base + (hint - l))) < c)
      (Q := fun b st' => st' = st ∧ ∃ l o, b = (none, l, o) ∧ l < o ∧ l < hint + 1 ∧ ¬ r (pvA p (base + (hint - l))) < c ∧ (o < hint + 1 → r (pvA p (base + (hint - o))) < c)) ?_ ?_ ⟨rfl, 0, 1, rfl, by omega, by omega, by omega, hq⟩) ?_)
    · rintro x b st' _ hx ⟨rfl, l, o, rfl, a1, a2, a3, a4⟩
      dsimp only
      by_cases ho : o ≥ hint + 1
      · rw [if_pos ho]
        exact wpS_pure ⟨rfl, l, o, rfl, a1, a2, a4, fun h => by omega⟩
      · rw [if_neg ho]
        refine wpS_bind (beyond_ok H hk hp (by omega) hK ?_)
        rw [← hc]
        by_cases hz : r (pvA p (base + (hint - o))) < c
        · simp only [hz, decide_true, if_true]
          exact wpS_pure ⟨rfl, l, o, rfl, a1, a2, a4, fun _ => hz⟩
        · simp only [hz, decide_false, Bool.false_eq_true, if_false]
          exact wpS_pure ⟨rfl, _, _, rfl, by omega, by omega, by omega, hz⟩
    · rintro b st' ⟨rfl, l, o, rfl, a1, a2, a3, a4⟩
      exact ⟨rfl, l, o, rfl, a1, a2, a4, fun h => by omega⟩
    · rintro b st' ⟨rfl, l, o, rfl, a1, a2, a4, a5⟩
      dsimp only
      refine gEnd_ok H hk hp hb hs hc (by omega) (by omega) (fun i hi => ?_) (fun i h1 h2 => ?_) hK h
      · have h3 : o < hint + 1 := by omega
        exact Nat.lt_of_le_of_lt (hs i (hint - o) (by omega) (by omega)) (a5 h3)
      · have := hs (hint - l) i (by omega) h2
        omega
end
def mergeLo' : Array Keyed → Array Keyed → StateT SortSt Sem (Array Keyed) := sortPriv% PySem.Builtin.mergeLo
def mergeHi' : Array Keyed → Array Keyed → StateT SortSt Sem (Array Keyed) := sortPriv% PySem.Builtin.mergeHi
def setG' (g : Nat) : StateT SortSt Sem Unit := modify fun st => SortSt.mk' (kindOf st) (arrOf st) (pendingOf st) g (failedOf st)
def mlDone (a b out : Array Keyed) (ia ib : Nat) := out ++ a.extract ia a.size ++ b.extract ib b.size
def mlLast (a b out : Array Keyed) (ia ib : Nat) := out ++ b.extract ib b.size ++ a.extract ia a.size
def mhDone (a b out : Array Keyed) (na nb : Nat) := a.extract 0 na ++ b.extract 0 nb ++ out.reverse
def mhFst (a b out : Array Keyed) (na nb : Nat) := b.extract 0 nb ++ a.extract 0 na ++ out.reverse
theorem mergeLo'_eq (a b : Array Keyed) : mergeLo' a b = (do
  rule "list.sort.merge-lo"
  let total := a.size + b.size
  let mut out : Array Keyed := #[← elem' b 0]
  let mut ia := 0
  let mut ib := 1
  if ib == b.size then return mlDone a b out ia ib
  if ia + 1 == a.size then return mlLast a b out ia ib
  let mut minGallop := gallopOf (← get)
  for _ in [0:total] do
    let mut acount := 0
    let mut bcount := 0
    for _ in [0:total] do
      let some bWins ← lt' (← elem' b ib) (← elem' a ia) | return mlDone a b out ia ib
      if bWins then
        out := out.push (← elem' b ib); ib := ib + 1; bcount := bcount + 1; acount := 0
        if ib == b.size then return mlDone a b out ia ib
        if bcount ≥ minGallop then break
      else
        out := out.push (← elem' a ia); ia := ia + 1; acount := acount + 1; bcount := 0
        if ia + 1 == a.size then return mlLast a b out ia ib
        if acount ≥ minGallop then break
    rule "list.sort.gallop"
    minGallop := minGallop + 1
    for _ in [0:total] do
      if minGallop > 1 then minGallop := minGallop - 1
      setG' minGallop
      let some k ← gallop' false (← elem' b ib) a ia (a.size - ia) 0 | return mlDone a b out ia ib
      acount := k
      if k > 0 then
        out := out ++ a.extract ia (ia + k); ia := ia + k
        if ia + 1 == a.size then return mlLast a b out ia ib
        if ia == a.size then return mlDone a b out ia ib
      out := out.push (← elem' b ib); ib := ib + 1
      if ib == b.size then return mlDone a b out ia ib
      let some k ← gallop' true (← elem' a ia) b ib (b.size - ib) 0 | return mlDone a b out ia ib
      bcount := k
      if k > 0 then
        out := out ++ b.extract ib (ib + k); ib := ib + k
        if ib == b.size then return mlDone a b out ia ib
      out := out.push (← elem' a ia); ia := ia + 1
      if ia + 1 == a.size then return mlLast a b out ia ib
      if acount < 7 && bcount < 7 then break
    minGallop := minGallop + 1
    setG' minGallop
  unsupported "internal:list.sort.merge-bound") := rfl
abbrev MSt := Option (Array Keyed) × Array Keyed × Nat × Nat × Nat × Nat × Nat
def mlEnd (a b : Array Keyed) (mg ac bc : Nat) (out : Array Keyed) (ia ib : Nat) : StateT SortSt Sem (ForInStep MSt) := do
  let out := out.push (← elem' a ia)
  if ia + 1 + 1 == a.size then pure (.done (some (mlLast a b out (ia + 1) ib), out, ia + 1, ib, mg, ac, bc))
  else if ac < 7 && bc < 7 then pure (.done (none, out, ia + 1, ib, mg, ac, bc)) else pure (.yield (none, out, ia + 1, ib, mg, ac, bc))
def mlMid (a b : Array Keyed) (mg ac bc : Nat) (out : Array Keyed) (ia ib : Nat) : StateT SortSt Sem (ForInStep MSt) := do
  let out := out.push (← elem' b ib)
  if ib + 1 == b.size then pure (.done (some (mlDone a b out ia (ib + 1)), out, ia, ib + 1, mg, ac, bc)) else
    match ← gallop' true (← elem' a ia) b (ib + 1) (b.size - (ib + 1)) 0 with
    | some k =>
      if k > 0 then
        let out := out ++ b.extract (ib + 1) (ib + 1 + k)
        if ib + 1 + k == b.size then pure (.done (some (mlDone a b out ia (ib + 1 + k)), out, ia, ib + 1 + k, mg, ac, k)) else mlEnd a b mg ac k out ia (ib + 1 + k)
      else mlEnd a b mg ac k out ia (ib + 1)
    | none => pure (.done (some (mlDone a b out ia (ib + 1)), out, ia, ib + 1, mg, ac, bc))
def mlBody (a b : Array Keyed) (mg ac bc : Nat) (out : Array Keyed) (ia ib : Nat) : StateT SortSt Sem (ForInStep MSt) := do
  setG' mg
  match ← gallop' false (← elem' b ib) a ia (a.size - ia) 0 with
  | some k =>
    if k > 0 then
      let out := out ++ a.extract ia (ia + k)
      if ia + k + 1 == a.size then pure (.done (some (mlLast a b out (ia + k) ib), out, ia + k, ib, mg, k, bc))
      else if ia + k == a.size then pure (.done (some (mlDone a b out (ia + k) ib), out, ia + k, ib, mg, k, bc))
      else mlMid a b mg k bc out (ia + k) ib
    else mlMid a b mg k bc out ia ib
  | none => pure (.done (some (mlDone a b out ia ib), out, ia, ib, mg, ac, bc))
theorem wpS_ite {M : Model} {A : Around} {E : Value → Shared → Prop} {s : Shared} {σ α : Type} {c : Prop} [Decidable c] {m1 m2 : StateT σ Sem α} {Q : α → σ → Prop} {st : σ} (h1 : c → wpS M A E s m1 Q st) (h2 : ¬ c → wpS M A E s m2 Q st) : wpS M A E s (if c then m1 else m2) Q st := by
  by_cases h : c
  · rw [if_pos h]; exact h1 h
  · rw [if_neg h]; exact h2 h
abbrev setG (st : SortSt) (g : Nat) : SortSt := SortSt.mk' (kindOf st) (arrOf st) (pendingOf st) g (failedOf st)
section
variable {prog : Program} {w : World} {A : Around} {E : Value → Shared → Prop} {s : Shared} {κ : SortKind} {item : Nat → Keyed} {r : Nat → Nat} {n : Nat}
theorem setG_ok {g : Nat} {Q : Unit → SortSt → Prop} {st : SortSt} (h : Q () (setG st g)) : wpS (model prog w) A E s (setG' g) Q st := wpS_modify h
structure MPre (r : Nat → Nat) (n : Nat) (pa pb : Array Nat) : Prop where
  la : Lo n pa
  lb : Lo n pb
  sa : ∀ i j, i ≤ j → j < pa.size → r (pvA pa i) ≤ r (pvA pa j)
  sb : ∀ i j, i ≤ j → j < pb.size → r (pvA pb i) ≤ r (pvA pb j)
  a1 : 1 ≤ pa.size
  b1 : 1 ≤ pb.size
  fst : ∀ i, i < pa.size → r (pvA pb 0) < r (pvA pa i)
  lst : ∀ i, i < pb.size → r (pvA pb i) < r (pvA pa (pa.size - 1))
structure MRes (r : Nat → Nat) (pa pb pm : Array Nat) : Prop where
  perm : pm.toList.Perm (pa.toList ++ pb.toList)
  so : pm.toList.Pairwise fun x y => r x ≤ r y
structure LoI (r : Nat → Nat) (pa pb po : Array Nat) (ia ib : Nat) : Prop where
  perm : po.toList.Perm (pa.toList.take ia ++ pb.toList.take ib)
  so : po.toList.Pairwise fun x y => r x ≤ r y
  ma : ∀ x ∈ po.toList, ia < pa.size → r x ≤ r (pvA pa ia)
  mb : ∀ x ∈ po.toList, ib < pb.size → r x ≤ r (pvA pb ib)
theorem pvA_toList {p : Array Nat} {i : Nat} (hi : i < p.size) : p.toList[i]? = some (pvA p i) := by
  have e : pvA p i = p[i] := by simp [pvA, Array.getD, hi]
  rw [e]; simp [hi]
theorem take_pw {p : Array Nat} {i : Nat} (hi : i < p.size) : p.toList.take (i + 1) = p.toList.take i ++ [pvA p i] := by
  rw [List.take_add_one, pvA_toList hi]; rfl
theorem drop_pw {p : Array Nat} {i : Nat} (hi : i < p.size) : p.toList.drop i = pvA p i :: p.toList.drop (i + 1) := by
  have e : pvA p i = p.toList[i]'(by simpa using hi) := by simp [pvA, Array.getD, hi]
  rw [List.drop_eq_getElem_cons (by simpa using hi), e]
theorem pvA_so {p : Array Nat} (h : ∀ i j, i ≤ j → j < p.size → r (pvA p i) ≤ r (pvA p j)) : p.toList.Pairwise fun x y => r x ≤ r y := by
  rw [List.pairwise_iff_getElem]
  intro i j hi hj hij
  have := h i j (by omega) (by simpa using hj)
  have e1 : pvA p i = p.toList[i] := by simp at hi; simp [pvA, Array.getD, hi]
  have e2 : pvA p j = p.toList[j] := by simp at hj; simp [pvA, Array.getD, hj]
  rw [e1, e2] at this; exact this
theorem mem_drop_pw {p : Array Nat} {k x : Nat} (h : x ∈ p.toList.drop k) : ∃ i, k ≤ i ∧ i < p.size ∧ x = pvA p i := by
  obtain ⟨i, hi, rfl⟩ := List.mem_iff_getElem.mp h
  simp at hi
  refine ⟨k + i, by omega, by omega, ?_⟩
  have h2 : k + i < p.size := by omega
  simp [pvA, Array.getD, h2]
variable {pa pb po : Array Nat} {ia ib : Nat}
theorem LoI.stepB (P : MPre r n pa pb) (I : LoI r pa pb po ia ib) (ha : ia < pa.size) (hb : ib < pb.size) (h : r (pvA pb ib) ≤ r (pvA pa ia)) : LoI r pa pb (po.push (pvA pb ib)) ia (ib + 1) := by
  refine ⟨?_, ?_, fun x hx _ => ?_, fun x hx h2 => ?_⟩
  · rw [take_pw hb, Array.toList_push, ← List.append_assoc]
    exact I.perm.append_right _
  · rw [Array.toList_push, List.pairwise_append]
    exact ⟨I.so, List.pairwise_singleton _ _, fun x hx y hy => by rw [List.mem_singleton.mp hy]; exact I.mb x hx hb⟩
  · rw [Array.toList_push, List.mem_append, List.mem_singleton] at hx
    rcases hx with hx | rfl
    · exact I.ma x hx ha
    · exact h
  · rw [Array.toList_push, List.mem_append, List.mem_singleton] at hx
    rcases hx with hx | rfl
    · exact Nat.le_trans (I.mb x hx hb) (P.sb _ _ (by omega) h2)
    · exact P.sb _ _ (by omega) h2
theorem LoI.stepA (P : MPre r n pa pb) (I : LoI r pa pb po ia ib) (ha : ia < pa.size) (hb : ib < pb.size) (h : r (pvA pa ia) ≤ r (pvA pb ib)) : LoI r pa pb (po.push (pvA pa ia)) (ia + 1) ib := by
  refine ⟨?_, ?_, fun x hx h2 => ?_, fun x hx _ => ?_⟩
  · rw [take_pw ha, Array.toList_push, List.append_assoc]
    refine (I.perm.append_right _).trans ?_
    rw [List.append_assoc]
    exact List.Perm.append_left _ List.perm_append_comm
  · rw [Array.toList_push, List.pairwise_append]
    exact ⟨I.so, List.pairwise_singleton _ _, fun x hx y hy => by rw [List.mem_singleton.mp hy]; exact I.ma x hx ha⟩
  · rw [Array.toList_push, List.mem_append, List.mem_singleton] at hx
    rcases hx with hx | rfl
    · exact Nat.le_trans (I.ma x hx ha) (P.sa _ _ (by omega) h2)
    · exact P.sa _ _ (by omega) h2
  · rw [Array.toList_push, List.mem_append, List.mem_singleton] at hx
    rcases hx with hx | rfl
    · exact I.mb x hx hb
    · exact h
theorem ext_push {p q : Array Nat} {i k : Nat} (h : i + k < q.size) : p ++ q.extract i (i + (k + 1)) = (p ++ q.extract i (i + k)).push (pvA q (i + k)) := by
  apply Array.toList_inj.mp
  simp only [Array.toList_append, Array.toList_push, Array.toList_extract, List.extract, List.append_assoc]
  congr 1
  rw [show i + (k + 1) - i = k + 1 by omega, show i + k - i = k by omega, List.take_add_one, List.getElem?_drop, pvA_toList h]
  rfl
theorem LoI.blockA (P : MPre r n pa pb) : ∀ (k : Nat) {po : Array Nat}, LoI r pa pb po ia ib → ia + k ≤ pa.size → ib < pb.size → (∀ i, i < k → r (pvA pa (ia + i)) ≤ r (pvA pb ib)) → LoI r pa pb (po ++ pa.extract ia (ia + k)) (ia + k) ib
  | 0, po, I, _, _, _ => by
    have e : po ++ pa.extract ia (ia + 0) = po := by simp <;> omega
    rw [e]; exact I
  | k + 1, po, I, h1, h2, h3 => by
    rw [ext_push (by omega)]
    exact (LoI.blockA P k I (by omega) h2 fun i hi => h3 i (by omega)).stepA P (by omega) h2 (h3 k (by omega))
theorem LoI.blockB (P : MPre r n pa pb) : ∀ (k : Nat) {po : Array Nat}, LoI r pa pb po ia ib → ib + k ≤ pb.size → ia < pa.size → (∀ i, i < k → r (pvA pb (ib + i)) ≤ r (pvA pa ia)) → LoI r pa pb (po ++ pb.extract ib (ib + k)) ia (ib + k)
  | 0, po, I, _, _, _ => by
    have e : po ++ pb.extract ib (ib + 0) = po := by simp <;> omega
    rw [e]; exact I
  | k + 1, po, I, h1, h2, h3 => by
    rw [ext_push (by omega)]
    exact (LoI.blockB P k I (by omega) h2 fun i hi => h3 i (by omega)).stepB P h2 (by omega) (h3 k (by omega))
theorem LoI.done (P : MPre r n pa pb) (I : LoI r pa pb po ia ib) (h : ib = pb.size) : ∃ pm : Array Nat, mlDone (pa.map item) (pb.map item) (po.map item) ia ib = pm.map item ∧ MRes r pa pb pm := by
  subst h
  refine ⟨po ++ pa.extract ia pa.size, ?_, ?_, ?_⟩
  · apply Array.toList_inj.mp; simp [mlDone, List.extract]
  · have e : pa.toList.take ia ++ pa.toList.drop ia = pa.toList := List.take_append_drop _ _
    have h := I.perm.append_right (pa.toList.drop ia)
    rw [List.take_of_length_le (l := pb.toList) (by simp), List.append_assoc] at h
    simp only [Array.toList_append, Array.toList_extract, List.extract]
    rw [List.take_of_length_le (by simp)]
    refine h.trans ((List.Perm.append_left _ List.perm_append_comm).trans ?_)
    rw [← List.append_assoc, e]
  · simp only [Array.toList_append, Array.toList_extract, List.extract]
    rw [List.take_of_length_le (by simp), List.pairwise_append]
    refine ⟨I.so, (pvA_so P.sa).drop, fun x hx y hy => ?_⟩
    obtain ⟨i, h1, h2, rfl⟩ := mem_drop_pw hy
    exact Nat.le_trans (I.ma x hx (by omega)) (P.sa _ _ h1 h2)
theorem LoI.last (P : MPre r n pa pb) (I : LoI r pa pb po ia ib) (h : ia + 1 = pa.size) : ∃ pm : Array Nat, mlLast (pa.map item) (pb.map item) (po.map item) ia ib = pm.map item ∧ MRes r pa pb pm := by
  refine ⟨po ++ pb.extract ib pb.size ++ pa.extract ia pa.size, ?_, ?_, ?_⟩
  · apply Array.toList_inj.mp; simp [mlLast, List.extract]
  · have e : pa.toList.take ia ++ pa.toList.drop ia = pa.toList := List.take_append_drop _ _
    have e2 : pb.toList.take ib ++ pb.toList.drop ib = pb.toList := List.take_append_drop _ _
    have h := (I.perm.append_right (pb.toList.drop ib)).append_right (pa.toList.drop ia)
    simp only [Array.toList_append, Array.toList_extract, List.extract]
    rw [List.take_of_length_le (l := List.drop ib _) (by simp), List.take_of_length_le (l := List.drop ia _) (by simp)]
    refine h.trans ?_
    rw [List.append_assoc (pa.toList.take ia), e2, List.append_assoc]
    refine (List.Perm.append_left _ List.perm_append_comm).trans ?_
    rw [← List.append_assoc, e]
  · simp only [Array.toList_append, Array.toList_extract, List.extract]
    rw [List.take_of_length_le (l := List.drop ib _) (by simp), List.take_of_length_le (l := List.drop ia _) (by simp), List.pairwise_append, List.pairwise_append]
    refine ⟨⟨I.so, (pvA_so P.sb).drop, fun x hx y hy => ?_⟩, (pvA_so P.sa).drop, fun x hx y hy => ?_⟩
    · obtain ⟨i, h1, h2, rfl⟩ := mem_drop_pw hy
      exact Nat.le_trans (I.mb x hx (by omega)) (P.sb _ _ h1 h2)
    · obtain ⟨i, h1, h2, rfl⟩ := mem_drop_pw hy
      have : i = ia := by omega
      subst this
      rcases List.mem_append.mp hx with hx | hx
      · exact I.ma x hx h2
      · obtain ⟨j, h3, h4, rfl⟩ := mem_drop_pw hx
        have := P.lst j h4
        rw [← h] at this
        exact Nat.le_of_lt this
end
section
variable {prog : Program} {w : World} {A : Around} {E : Value → Shared → Prop} {s : Shared} {κ : SortKind} {item : Nat → Keyed} {r : Nat → Nat} {n : Nat} {pa pb : Array Nat}
theorem map_push {p : Array Nat} {i : Nat} : (p.map item).push (item i) = (p.push i).map item := by simp
theorem map_ext {p q : Array Nat} {i j : Nat} : p.map item ++ (q.map item).extract i j = (p ++ q.extract i j).map item := by simp
def LoB (r : Nat → Nat) (item : Nat → Keyed) (pa pb : Array Nat) (st : SortSt) (x y : Nat) (c : ForInStep MSt) (st' : SortSt) : Prop := match c with
  | .done b => ∃ g, st' = setG st g ∧ ((∃ po ia ib mg ac bc, b = (none, po.map item, ia, ib, mg, ac, bc) ∧ LoI r pa pb po ia ib ∧ ia + 1 < pa.size ∧ ib < pb.size ∧ x + 2 ≤ ia + ib) ∨ ∃ pm, b.1 = some (pm.map item) ∧ MRes r pa pb pm)
  | .yield b => ∃ g po ia ib mg ac bc, st' = setG st g ∧ b = (none, po.map item, ia, ib, mg, ac, bc) ∧ LoI r pa pb po ia ib ∧ ia + 1 < pa.size ∧ ib < pb.size ∧ x + 1 + (y + 1) ≤ ia + ib
theorem lend_ok (P : MPre r n pa pb) {st : SortSt} {x y g mg ac bc ia ib : Nat} {po : Array Nat} (I : LoI r pa pb po ia ib) (i1 : ia + 1 < pa.size) (i2 : ib < pb.size) (i3 : x + 1 + (y + 1) ≤ ia + 1 + ib) (h : r (pvA pa ia) ≤ r (pvA pb ib)) :
    wpS (model prog w) A E s (mlEnd (pa.map item) (pb.map item) mg ac bc (po.map item) ia ib) (LoB r item pa pb st x y) (setG st g) := by
  unfold mlEnd
  have z1 : (pa.map item).size = pa.size := Array.size_map
  rw [z1]
  refine wpS_bind (elem_ok (by omega) ?_)
  dsimp only
  have J := I.stepA P (by omega) i2 h
  rw [map_push]
  refine wpS_ite (fun q => ?_) fun q => ?_
  · obtain ⟨pm, e, R⟩ := J.last (item := item) P (by simpa using q)
    rw [e]; exact wpS_pure ⟨g, rfl, .inr ⟨pm, rfl, R⟩⟩
  have q' : ia + 1 + 1 ≠ pa.size := by simpa using q
  refine wpS_ite (fun q => ?_) fun q => ?_
  · exact wpS_pure ⟨g, rfl, .inl ⟨_, _, _, _, _, _, rfl, J, by omega, i2, by omega⟩⟩
  · exact wpS_pure ⟨g, _, _, _, _, _, _, rfl, rfl, J, by omega, i2, by omega⟩
variable (H : Cmp prog w A E s κ item r n)
include H
theorem mid_ok (P : MPre r n pa pb) {st : SortSt} (hK : kindOf st = κ) {x y g mg ac bc ia ib : Nat} {po : Array Nat} (I : LoI r pa pb po ia ib) (i1 : ia + 1 < pa.size) (i2 : ib < pb.size) (i3 : x + 1 + y ≤ ia + ib) (h : r (pvA pb ib) ≤ r (pvA pa ia)) :
    wpS (model prog w) A E s (mlMid (pa.map item) (pb.map item) mg ac bc (po.map item) ia ib) (LoB r item pa pb st x y) (setG st g) := by
  unfold mlMid
  have z2 : (pb.map item).size = pb.size := Array.size_map
  rw [z2]
  refine wpS_bind (elem_ok i2 ?_)
  dsimp only
  have J := I.stepB P (by omega) i2 h
  rw [map_push]
  refine wpS_ite (fun q => ?_) fun q => ?_
  · obtain ⟨pm, e, R⟩ := J.done (item := item) P (by simpa using q)
    rw [e]; exact wpS_pure ⟨g, rfl, .inr ⟨pm, rfl, R⟩⟩
  have q' : ib + 1 ≠ pb.size := by simpa using q
  refine wpS_bind (elem_ok (by omega) ?_)
  refine wpS_bind (gallop_ok H (P.la _ (by omega)) P.lb (by omega) (by omega) (fun i j h1 h2 => P.sb _ _ (by omega) (by omega)) hK fun k l1 l2 l3 => ?_)
  simp only [if_true] at l2 l3
  dsimp only
  have J3 := LoI.blockB P k J (by omega) (by omega) fun i hi => Nat.le_of_lt (l2 i hi)
  have hle : ib + 1 + k < pb.size → r (pvA pa ia) ≤ r (pvA pb (ib + 1 + k)) := fun _ => by
    have := l3 k (Nat.le_refl _) (by omega)
    omega
  refine wpS_ite (fun q => ?_) fun q => ?_
  · rw [map_ext]
    refine wpS_ite (fun q => ?_) fun q => ?_
    · obtain ⟨pm, e, R⟩ := J3.done (item := item) P (by simpa using q)
      rw [e]; exact wpS_pure ⟨g, rfl, .inr ⟨pm, rfl, R⟩⟩
    have q' : ib + 1 + k ≠ pb.size := by simpa using q
    exact lend_ok P J3 i1 (by omega) (by omega) (hle (by omega))
  · have e : k = 0 := by omega
    subst e
    exact lend_ok P J i1 (by omega) (by omega) (hle (by omega))
theorem mergeLo_ok (P : MPre r n pa pb) {Q : Array Keyed → SortSt → Prop} {st : SortSt} (hK : kindOf st = κ) (h : ∀ pm g, MRes r pa pb pm → Q (pm.map item) (setG st g)) : wpS (model prog w) A E s (mergeLo' (pa.map item) (pb.map item)) Q st := by
  rw [mergeLo'_eq]
  refine wpS_bind (wpS_lift (wpAny_rule ⟨rfl, ?_⟩))
  dsimp only
  have a1 := P.a1
  have b1 := P.b1
  have z1 : (pa.map item).size = pa.size := Array.size_map
  have z2 : (pb.map item).size = pb.size := Array.size_map
  rw [z1, z2]
  refine wpS_bind (elem_ok (by omega) ?_)
  have e0 : (#[item (pvA pb 0)] : Array Keyed) = (#[pvA pb 0] : Array Nat).map item := by simp
  rw [e0]
  have I0 : LoI r pa pb #[pvA pb 0] 0 1 := by
    refine ⟨?_, List.pairwise_singleton _ _, fun x hx h2 => ?_, fun x hx h2 => ?_⟩
    · rw [take_pw (by omega)]; simp
    · rw [List.mem_singleton.mp hx]; exact Nat.le_of_lt (P.fst _ h2)
    · rw [List.mem_singleton.mp hx]; exact P.sb _ _ (by omega) h2
  refine wpS_ite (fun q => ?_) fun q1 => ?_
  · obtain ⟨pm, e, R⟩ := I0.done (item := item) P (by simpa using q)
    rw [e]; exact wpS_pure (h pm (gallopOf st) R)
  refine wpS_ite (fun q => ?_) fun q2 => ?_
  · obtain ⟨pm, e, R⟩ := I0.last (item := item) P (by simpa using q)
    rw [e]; exact wpS_pure (h pm (gallopOf st) R)
  refine wpS_bind (wpS_get ?_)
  have q1' : 1 ≠ pb.size := by simpa using q1
  have q2' : 1 ≠ pa.size := by simpa using q2
  refine wpS_bind (wpS_mono (wpS_forRange (I := fun x b st' => ∃ g po ia ib mg, st' = setG st g ∧ b = (none, po.map item, ia, ib, mg) ∧ LoI r pa pb po ia ib ∧ ia + 1 < pa.size ∧ ib < pb.size ∧ x + 1 ≤ ia + ib)
    (Q := fun b st' => ∃ g pm, st' = setG st g ∧ b.1 = some (pm.map item) ∧ MRes r pa pb pm) ?_ ?_ ⟨gallopOf st, _, 0, 1, _, rfl, rfl, I0, by omega, by omega, by omega⟩) ?_)
  · rintro x b st' _ hx ⟨g, po, ia, ib, mg, rfl, rfl, I, i1, i2, i3⟩
    dsimp only
    refine wpS_bind (wpS_mono (wpS_forRange (I := fun y b st' => st' = setG st g ∧ ∃ po ia ib ac bc, b = (none, po.map item, ia, ib, ac, bc) ∧ LoI r pa pb po ia ib ∧ ia + 1 < pa.size ∧ ib < pb.size ∧ x + 1 ≤ ia + ib)
      (Q := fun b st' => st' = setG st g ∧ ((∃ po ia ib ac bc, b = (none, po.map item, ia, ib, ac, bc) ∧ LoI r pa pb po ia ib ∧ ia + 1 < pa.size ∧ ib < pb.size ∧ x + 1 ≤ ia + ib) ∨ ∃ pm, b.1 = some (pm.map item) ∧ MRes r pa pb pm)) ?_ ?_ ⟨rfl, po, ia, ib, 0, 0, rfl, I, i1, i2, i3⟩) ?_)
    · clear I i1 i2 i3
      rintro y b st' _ hy ⟨rfl, po, ia, ib, ac, bc, rfl, I, i1, i2, i3⟩
      dsimp only
      refine wpS_bind (elem_ok i2 (wpS_bind (elem_ok (by omega) (wpS_bind (H _ _ (P.lb _ i2) (P.la _ (by omega)) _ _ hK ?_)))))
      dsimp only
      refine wpS_ite (fun q => ?_) fun q => ?_
      · have q := of_decide_eq_true q
        have J := I.stepB P (by omega) i2 (Nat.le_of_lt q)
        refine wpS_bind (elem_ok i2 ?_)
        rw [map_push]
        refine wpS_ite (fun q => ?_) fun q => ?_
        · obtain ⟨pm, e, R⟩ := J.done (item := item) P (by simpa using q)
          rw [e]; exact wpS_pure ⟨rfl, .inr ⟨pm, rfl, R⟩⟩
        have q' : ib + 1 ≠ pb.size := by simpa using q
        refine wpS_ite (fun q => ?_) fun q => ?_
        · exact wpS_pure ⟨rfl, .inl ⟨_, _, _, _, _, rfl, J, i1, by omega, by omega⟩⟩
        · exact wpS_pure ⟨rfl, _, _, _, _, _, rfl, J, i1, by omega, by omega⟩
      · have q : ¬ r (pvA pb ib) < r (pvA pa ia) := fun h => q (decide_eq_true h)
        have J := I.stepA P (by omega) i2 (by omega)
        refine wpS_bind (elem_ok (by omega) ?_)
        rw [map_push]
        refine wpS_ite (fun q => ?_) fun q => ?_
        · obtain ⟨pm, e, R⟩ := J.last (item := item) P (by simpa using q)
          rw [e]; exact wpS_pure ⟨rfl, .inr ⟨pm, rfl, R⟩⟩
        have q' : ia + 1 + 1 ≠ pa.size := by simpa using q
        refine wpS_ite (fun q => ?_) fun q => ?_
        · exact wpS_pure ⟨rfl, .inl ⟨_, _, _, _, _, rfl, J, by omega, i2, by omega⟩⟩
        · exact wpS_pure ⟨rfl, _, _, _, _, _, rfl, J, by omega, i2, by omega⟩
    · rintro b st' ⟨e, hh⟩
      exact ⟨e, .inl hh⟩
    · clear I i1 i2 i3
      rintro b st' ⟨rfl, ⟨po, ia, ib, ac, bc, rfl, I, i1, i2, i3⟩ | ⟨pm, e, R⟩⟩
      · dsimp only
        refine wpS_bind (wpS_lift (wpAny_rule ⟨rfl, ?_⟩))
        refine wpS_bind (wpS_mono (wpS_forRange (I := fun y b st' => ∃ g po ia ib mg ac bc, st' = setG st g ∧ b = (none, po.map item, ia, ib, mg, ac, bc) ∧ LoI r pa pb po ia ib ∧ ia + 1 < pa.size ∧ ib < pb.size ∧ x + 1 + y ≤ ia + ib)
          (Q := fun b st' => ∃ g, st' = setG st g ∧ ((∃ po ia ib mg ac bc, b = (none, po.map item, ia, ib, mg, ac, bc) ∧ LoI r pa pb po ia ib ∧ ia + 1 < pa.size ∧ ib < pb.size ∧ x + 2 ≤ ia + ib) ∨ ∃ pm, b.1 = some (pm.map item) ∧ MRes r pa pb pm)) ?_ ?_ ⟨g, po, ia, ib, _, _, _, rfl, rfl, I, i1, i2, by omega⟩) ?_)
        · clear I i1 i2 i3
          rintro y b st' _ hy ⟨g, po, ia, ib, mg, ac, bc, rfl, rfl, I, i1, i2, i3⟩
          dsimp only
          have key : ∀ mg', wpS (model prog w) A E s (mlBody (pa.map item) (pb.map item) mg' ac bc (po.map item) ia ib)
              (LoB r item pa pb st x y) (setG st g) := by
            intro mg'
            unfold mlBody
            rw [z1]
            refine wpS_bind (setG_ok ?_)
            refine wpS_bind (elem_ok i2 ?_)
            refine wpS_bind (gallop_ok H (P.lb _ i2) P.la (by omega) (by omega) (fun i j h1 h2 => P.sa _ _ (by omega) (by omega)) hK fun k k1 k2 k3 => ?_)
            simp only [Bool.false_eq_true, if_false] at k2 k3
            dsimp only
            have kz : ia + k + 1 ≤ pa.size := by
              rcases Nat.lt_or_ge (ia + k) pa.size with h | h
              · omega
              · have h1 := k2 (pa.size - 1 - ia) (by omega)
                have h2 := P.lst ib i2
                rw [show ia + (pa.size - 1 - ia) = pa.size - 1 by omega] at h1
                omega
            have J := LoI.blockA P k I (by omega) i2 fun i hi => by have := k2 i hi; omega
            have hle : ia + k < pa.size → r (pvA pb ib) ≤ r (pvA pa (ia + k)) := fun _ => by
              have := k3 k (Nat.le_refl _) (by omega)
              omega
            refine wpS_ite (fun q => ?_) fun q => ?_
            · rw [map_ext]
              refine wpS_ite (fun q => ?_) fun q => ?_
              · obtain ⟨pm, e, R⟩ := J.last (item := item) P (by simpa using q)
                rw [e]; exact wpS_pure ⟨mg', rfl, .inr ⟨pm, rfl, R⟩⟩
              have q' : ia + k + 1 ≠ pa.size := by simpa using q
              refine wpS_ite (fun q => ?_) fun q => ?_
              · have : ia + k = pa.size := by simpa using q
                omega
              exact mid_ok H P hK J (by omega) i2 (by omega) (hle (by omega))
            · have e : k = 0 := by omega
              subst e
              exact mid_ok H P hK I (by omega) i2 (by omega) (hle (by omega))
          unfold mlBody mlMid mlEnd at key
          dsimp only at key
          rw [z1, z2] at key
          refine wpS_ite (fun q => ?_) fun q => ?_
          · refine Eq.mp ?_ (key (mg - 1)); congr 1
            · congr 1; funext u; congr 1; funext u; congr 1; funext u
              cases u with
              | none => rfl
              | some k =>
                dsimp only
                by_cases hk : k > 0
                · rw [if_pos hk, if_pos hk]; congr 1; congr 1; congr 1; funext u; congr 1; congr 1; funext u; congr 1; funext u
                  cases u <;> rfl
                · rw [if_neg hk, if_neg hk]; congr 1; funext u; congr 1; congr 1; funext u; congr 1; funext u
                  cases u <;> rfl
            · funext r_1 st2; cases r_1 <;> rfl
          · refine Eq.mp ?_ (key (mg)); congr 1
            · congr 1; funext u; congr 1; funext u; congr 1; funext u
              cases u with
              | none => rfl
              | some k =>
                dsimp only
                by_cases hk : k > 0
                · rw [if_pos hk, if_pos hk]; congr 1; congr 1; congr 1; funext u; congr 1; congr 1; funext u; congr 1; funext u
                  cases u <;> rfl
                · rw [if_neg hk, if_neg hk]; congr 1; funext u; congr 1; congr 1; funext u; congr 1; funext u
                  cases u <;> rfl
            · funext r_1 st2; cases r_1 <;> rfl
        · rintro b st' ⟨g, po, ia, ib, mg, ac, bc, rfl, rfl, I, i1, i2, i3⟩
          exact ⟨g, rfl, .inl ⟨_, _, _, _, _, _, rfl, I, i1, i2, by omega⟩⟩
        · clear I i1 i2 i3
          rintro b st' ⟨g, rfl, ⟨po, ia, ib, mg, ac, bc, rfl, I, i1, i2, i3⟩ | ⟨pm, e, R⟩⟩
          · dsimp only
            exact wpS_bind (setG_ok (wpS_pure ⟨_, _, _, _, _, rfl, rfl, I, i1, i2, by omega⟩))
          · rw [e]
            exact wpS_pure ⟨g, pm, rfl, rfl, R⟩
      · rw [e]
        exact wpS_pure ⟨g, pm, rfl, rfl, R⟩
  · rintro b st' ⟨g, po, ia, ib, mg, rfl, rfl, I, i1, i2, i3⟩
    omega
  · rintro b st' ⟨g, pm, rfl, e, R⟩
    rw [e]
    exact wpS_pure (h pm g R)
end
abbrev HSt := Option (Array Keyed) × Nat × Nat × Array Keyed × Nat × Nat × Nat
def mhEnd (a b : Array Keyed) (mg ac bc : Nat) (na nb : Nat) (out : Array Keyed) : StateT SortSt Sem (ForInStep HSt) := do
  let out := out.push (← elem' a (na - 1))
  if na - 1 == 0 then pure (.done (some (mhDone a b out (na - 1) nb), na - 1, nb, out, mg, ac, bc))
  else if ac < 7 && bc < 7 then pure (.done (none, na - 1, nb, out, mg, ac, bc)) else pure (.yield (none, na - 1, nb, out, mg, ac, bc))
def mhMid (a b : Array Keyed) (mg ac bc : Nat) (na nb : Nat) (out : Array Keyed) : StateT SortSt Sem (ForInStep HSt) := do
  let out := out.push (← elem' b (nb - 1))
  if nb - 1 == 1 then pure (.done (some (mhFst a b out na (nb - 1)), na, nb - 1, out, mg, ac, bc)) else
    match ← gallop' true (← elem' a (na - 1)) b 0 (nb - 1) (nb - 1 - 1) with
    | some at_ =>
      if nb - 1 - at_ > 0 then
        let out := out ++ (b.extract at_ (nb - 1)).reverse
        if at_ == 1 then pure (.done (some (mhFst a b out na at_), na, at_, out, mg, ac, nb - 1 - at_))
        else if at_ == 0 then pure (.done (some (mhDone a b out na at_), na, at_, out, mg, ac, nb - 1 - at_))
        else mhEnd a b mg ac (nb - 1 - at_) na at_ out
      else mhEnd a b mg ac (nb - 1 - at_) na (nb - 1) out
    | none => pure (.done (some (mhDone a b out na (nb - 1)), na, nb - 1, out, mg, ac, bc))
def mhBody (a b : Array Keyed) (mg ac bc : Nat) (na nb : Nat) (out : Array Keyed) : StateT SortSt Sem (ForInStep HSt) := do
  setG' mg
  match ← gallop' false (← elem' b (nb - 1)) a 0 na (na - 1) with
  | some at_ =>
    if na - at_ > 0 then
      let out := out ++ (a.extract at_ na).reverse
      if at_ == 0 then pure (.done (some (mhDone a b out at_ nb), at_, nb, out, mg, na - at_, bc))
      else mhMid a b mg (na - at_) bc at_ nb out
    else mhMid a b mg (na - at_) bc na nb out
  | none => pure (.done (some (mhDone a b out na nb), na, nb, out, mg, ac, bc))
theorem mergeHi'_eq (a b : Array Keyed) : mergeHi' a b = (do
  rule "list.sort.merge-hi"
  let total := a.size + b.size
  let mut na := a.size - 1
  let mut nb := b.size
  let mut out : Array Keyed := #[← elem' a na]
  if na == 0 then return mhDone a b out na nb
  if nb == 1 then return mhFst a b out na nb
  let mut minGallop := gallopOf (← get)
  for _ in [0:total] do
    let mut acount := 0
    let mut bcount := 0
    for _ in [0:total] do
      let some aWins ← lt' (← elem' b (nb - 1)) (← elem' a (na - 1)) | return mhDone a b out na nb
      if aWins then
        na := na - 1; out := out.push (← elem' a na); acount := acount + 1; bcount := 0
        if na == 0 then return mhDone a b out na nb
        if acount ≥ minGallop then break
      else
        nb := nb - 1; out := out.push (← elem' b nb); bcount := bcount + 1; acount := 0
        if nb == 1 then return mhFst a b out na nb
        if bcount ≥ minGallop then break
    rule "list.sort.gallop"
    minGallop := minGallop + 1
    for _ in [0:total] do
      if minGallop > 1 then minGallop := minGallop - 1
      setG' minGallop
      let some at_ ← gallop' false (← elem' b (nb - 1)) a 0 na (na - 1) | return mhDone a b out na nb
      let k := na - at_
      acount := k
      if k > 0 then
        out := out ++ (a.extract at_ na).reverse; na := at_
        if na == 0 then return mhDone a b out na nb
      nb := nb - 1; out := out.push (← elem' b nb)
      if nb == 1 then return mhFst a b out na nb
      let some at_ ← gallop' true (← elem' a (na - 1)) b 0 nb (nb - 1) | return mhDone a b out na nb
      let k := nb - at_
      bcount := k
      if k > 0 then
        out := out ++ (b.extract at_ nb).reverse; nb := at_
        if nb == 1 then return mhFst a b out na nb
        if nb == 0 then return mhDone a b out na nb
      na := na - 1; out := out.push (← elem' a na)
      if na == 0 then return mhDone a b out na nb
      if acount < 7 && bcount < 7 then break
    minGallop := minGallop + 1
    setG' minGallop
  unsupported "internal:list.sort.merge-bound") := rfl
section
variable {prog : Program} {w : World} {A : Around} {E : Value → Shared → Prop} {s : Shared} {κ : SortKind} {item : Nat → Keyed} {r : Nat → Nat} {n : Nat} {pa pb po : Array Nat} {na nb : Nat}
structure HiI (r : Nat → Nat) (pa pb po : Array Nat) (na nb : Nat) : Prop where
  perm : po.toList.Perm (pa.toList.drop na ++ pb.toList.drop nb)
  so : po.toList.Pairwise fun x y => r y ≤ r x
  ma : ∀ x ∈ po.toList, 0 < na → r (pvA pa (na - 1)) ≤ r x
  mb : ∀ x ∈ po.toList, 0 < nb → r (pvA pb (nb - 1)) ≤ r x
  la : na ≤ pa.size
  lb : nb ≤ pb.size
theorem HiI.stepA (P : MPre r n pa pb) (I : HiI r pa pb po na nb) (ha : 0 < na) (hb : 0 < nb) (h : r (pvA pb (nb - 1)) ≤ r (pvA pa (na - 1))) : HiI r pa pb (po.push (pvA pa (na - 1))) (na - 1) nb := by
  have la := I.la
  refine ⟨?_, ?_, fun x hx h2 => ?_, fun x hx _ => ?_, by omega, I.lb⟩
  · rw [drop_pw (i := na - 1) (by omega), show na - 1 + 1 = na by omega, Array.toList_push, List.cons_append]
    exact List.perm_append_comm.trans (I.perm.cons _)
  · rw [Array.toList_push, List.pairwise_append]
    exact ⟨I.so, List.pairwise_singleton _ _, fun x hx y hy => by rw [List.mem_singleton.mp hy]; exact I.ma x hx ha⟩
  · rw [Array.toList_push, List.mem_append, List.mem_singleton] at hx
    rcases hx with hx | rfl
    · exact Nat.le_trans (P.sa _ _ (by omega) (by omega)) (I.ma x hx ha)
    · exact P.sa _ _ (by omega) (by omega)
  · rw [Array.toList_push, List.mem_append, List.mem_singleton] at hx
    rcases hx with hx | rfl
    · exact I.mb x hx hb
    · exact h
theorem HiI.stepB (P : MPre r n pa pb) (I : HiI r pa pb po na nb) (ha : 0 < na) (hb : 0 < nb) (h : r (pvA pa (na - 1)) ≤ r (pvA pb (nb - 1))) : HiI r pa pb (po.push (pvA pb (nb - 1))) na (nb - 1) := by
  have lb := I.lb
  refine ⟨?_, ?_, fun x hx _ => ?_, fun x hx h2 => ?_, I.la, by omega⟩
  · rw [drop_pw (i := nb - 1) (by omega), show nb - 1 + 1 = nb by omega, Array.toList_push]
    exact List.perm_append_comm.trans ((I.perm.cons _).trans List.perm_middle.symm)
  · rw [Array.toList_push, List.pairwise_append]
    exact ⟨I.so, List.pairwise_singleton _ _, fun x hx y hy => by rw [List.mem_singleton.mp hy]; exact I.mb x hx hb⟩
  · rw [Array.toList_push, List.mem_append, List.mem_singleton] at hx
    rcases hx with hx | rfl
    · exact I.ma x hx ha
    · exact h
  · rw [Array.toList_push, List.mem_append, List.mem_singleton] at hx
    rcases hx with hx | rfl
    · exact Nat.le_trans (P.sb _ _ (by omega) (by omega)) (I.mb x hx hb)
    · exact P.sb _ _ (by omega) (by omega)
theorem ext_rev {p q : Array Nat} {i j : Nat} (h : i < j) (hj : j ≤ q.size) : p ++ (q.extract i j).reverse = (p ++ (q.extract (i + 1) j).reverse).push (pvA q i) := by
  apply Array.toList_inj.mp
  simp only [Array.toList_append, Array.toList_push, Array.toList_extract, Array.toList_reverse, List.extract, List.append_assoc]
  congr 1
  rw [drop_pw (i := i) (by omega), show j - i = (j - (i + 1)) + 1 by omega, List.take_succ_cons, List.reverse_cons]
theorem HiI.blockA (P : MPre r n pa pb) : ∀ (k at_ : Nat) {po : Array Nat}, HiI r pa pb po na nb → at_ + k = na → 0 < nb → (∀ i, at_ ≤ i → i < na → r (pvA pb (nb - 1)) ≤ r (pvA pa i)) → HiI r pa pb (po ++ (pa.extract at_ na).reverse) at_ nb
  | 0, at_, po, I, e, _, _ => by
    have e1 : po ++ (pa.extract at_ na).reverse = po := by
      apply Array.toList_inj.mp; simp [List.extract]; omega
    rw [e1, show at_ = na by omega]; exact I
  | k + 1, at_, po, I, e, h2, h3 => by
    have la := I.la
    rw [ext_rev (by omega) la]
    have J := HiI.blockA P k (at_ + 1) I (by omega) h2 fun i a b => h3 i (by omega) b
    have := J.stepA P (by omega) h2 (h3 _ (by omega) (by omega))
    exact this
theorem HiI.blockB (P : MPre r n pa pb) : ∀ (k at_ : Nat) {po : Array Nat}, HiI r pa pb po na nb → at_ + k = nb → 0 < na → (∀ i, at_ ≤ i → i < nb → r (pvA pa (na - 1)) ≤ r (pvA pb i)) → HiI r pa pb (po ++ (pb.extract at_ nb).reverse) na at_
  | 0, at_, po, I, e, _, _ => by
    have e1 : po ++ (pb.extract at_ nb).reverse = po := by
      apply Array.toList_inj.mp; simp [List.extract]; omega
    rw [e1, show at_ = nb by omega]; exact I
  | k + 1, at_, po, I, e, h2, h3 => by
    have lb := I.lb
    rw [ext_rev (by omega) lb]
    have J := HiI.blockB P k (at_ + 1) I (by omega) h2 fun i a b => h3 i (by omega) b
    have := J.stepB P h2 (by omega) (h3 _ (by omega) (by omega))
    exact this
theorem mem_take_pw {p : Array Nat} {k x : Nat} (h : x ∈ p.toList.take k) : ∃ i, i < k ∧ i < p.size ∧ x = pvA p i := by
  obtain ⟨i, hi, rfl⟩ := List.mem_iff_getElem.mp h
  simp at hi
  refine ⟨i, by omega, by omega, ?_⟩
  have h2 : i < p.size := by omega
  simp [pvA, Array.getD, h2]
theorem rev_so {l : List Nat} (h : l.Pairwise fun x y => r y ≤ r x) : l.reverse.Pairwise fun x y => r x ≤ r y := List.pairwise_reverse.mpr h
theorem HiI.done (P : MPre r n pa pb) (I : HiI r pa pb po na nb) (h : na = 0) : ∃ pm : Array Nat, mhDone (pa.map item) (pb.map item) (po.map item) na nb = pm.map item ∧ MRes r pa pb pm := by
  subst h
  have lb := I.lb
  refine ⟨pb.extract 0 nb ++ po.reverse, ?_, ?_, ?_⟩
  · apply Array.toList_inj.mp; simp [mhDone, List.extract]
  · simp only [Array.toList_append, Array.toList_extract, Array.toList_reverse, List.extract, List.drop_zero, Nat.sub_zero]
    have h := (List.reverse_perm po.toList).trans I.perm
    rw [List.drop_zero] at h
    refine (h.append_left _).trans ?_
    refine List.perm_append_comm.trans ?_
    rw [List.append_assoc]
    refine List.Perm.append_left _ ?_
    refine List.perm_append_comm.trans ?_
    rw [List.take_append_drop]
  · simp only [Array.toList_append, Array.toList_extract, Array.toList_reverse, List.extract, List.drop_zero, Nat.sub_zero]
    rw [List.pairwise_append]
    refine ⟨(pvA_so P.sb).take, rev_so I.so, fun x hx y hy => ?_⟩
    obtain ⟨i, h1, h2, rfl⟩ := mem_take_pw hx
    exact Nat.le_trans (P.sb i (nb - 1) (by omega) (by omega)) (I.mb y (List.mem_reverse.mp hy) (by omega))
theorem HiI.fst (P : MPre r n pa pb) (I : HiI r pa pb po na nb) (h : nb = 1) : ∃ pm : Array Nat, mhFst (pa.map item) (pb.map item) (po.map item) na nb = pm.map item ∧ MRes r pa pb pm := by
  subst h
  have la := I.la
  refine ⟨pb.extract 0 1 ++ pa.extract 0 na ++ po.reverse, ?_, ?_, ?_⟩
  · apply Array.toList_inj.mp; simp [mhFst, List.extract]
  · simp only [Array.toList_append, Array.toList_extract, Array.toList_reverse, List.extract, List.drop_zero, Nat.sub_zero]
    have h := (List.reverse_perm po.toList).trans I.perm
    refine (h.append_left _).trans ?_
    rw [List.append_assoc, ← List.append_assoc (pa.toList.take na), List.take_append_drop]
    refine List.perm_append_comm.trans ?_
    rw [List.append_assoc]
    refine List.Perm.append_left _ ?_
    refine List.perm_append_comm.trans ?_
    rw [List.take_append_drop]
  · simp only [Array.toList_append, Array.toList_extract, Array.toList_reverse, List.extract, List.drop_zero, Nat.sub_zero]
    rw [List.pairwise_append, List.pairwise_append]
    refine ⟨⟨(pvA_so P.sb).take, (pvA_so P.sa).take, fun x hx y hy => ?_⟩, rev_so I.so, fun x hx y hy => ?_⟩
    · obtain ⟨i, h1, h2, rfl⟩ := mem_take_pw hx
      obtain ⟨j, h3, h4, rfl⟩ := mem_take_pw hy
      have : i = 0 := by omega
      subst this
      exact Nat.le_of_lt (P.fst _ h4)
    · rcases List.mem_append.mp hx with hx | hx
      · obtain ⟨i, h1, h2, rfl⟩ := mem_take_pw hx
        exact Nat.le_trans (P.sb i (1 - 1) (by omega) (by omega)) (I.mb y (List.mem_reverse.mp hy) (by omega))
      · obtain ⟨i, h1, h2, rfl⟩ := mem_take_pw hx
        exact Nat.le_trans (P.sa i (na - 1) (by omega) (by omega)) (I.ma y (List.mem_reverse.mp hy) (by omega))
theorem map_extR {p q : Array Nat} {i j : Nat} : p.map item ++ ((q.map item).extract i j).reverse = (p ++ (q.extract i j).reverse).map item := by simp
def HiB (r : Nat → Nat) (item : Nat → Keyed) (pa pb : Array Nat) (st : SortSt) (x y : Nat) (c : ForInStep HSt) (st' : SortSt) : Prop := match c with
  | .done b => ∃ g, st' = setG st g ∧ ((∃ na nb po mg ac bc, b = (none, na, nb, po.map item, mg, ac, bc) ∧ HiI r pa pb po na nb ∧ 1 ≤ na ∧ 2 ≤ nb ∧ x + 2 + na + nb ≤ pa.size + pb.size) ∨ ∃ pm, b.1 = some (pm.map item) ∧ MRes r pa pb pm)
  | .yield b => ∃ g na nb po mg ac bc, st' = setG st g ∧ b = (none, na, nb, po.map item, mg, ac, bc) ∧ HiI r pa pb po na nb ∧ 1 ≤ na ∧ 2 ≤ nb ∧ x + 1 + (y + 1) + na + nb ≤ pa.size + pb.size
theorem hend_ok (P : MPre r n pa pb) {st : SortSt} {x y g mg ac bc : Nat} (I : HiI r pa pb po na nb) (i1 : 1 ≤ na) (i2 : 2 ≤ nb) (i3 : x + 1 + y + na + nb ≤ pa.size + pb.size) (h : r (pvA pb (nb - 1)) ≤ r (pvA pa (na - 1))) :
    wpS (model prog w) A E s (mhEnd (pa.map item) (pb.map item) mg ac bc na nb (po.map item)) (HiB r item pa pb st x y) (setG st g) := by
  unfold mhEnd
  have la := I.la
  refine wpS_bind (elem_ok (by omega) ?_)
  dsimp only
  have J := I.stepA P (by omega) (by omega) h
  rw [map_push]
  refine wpS_ite (fun q => ?_) fun q => ?_
  · obtain ⟨pm, e, R⟩ := J.done (item := item) P (eq_of_beq q)
    rw [e]; exact wpS_pure ⟨g, rfl, .inr ⟨pm, rfl, R⟩⟩
  have q' : na - 1 ≠ 0 := fun h => q (by rw [h]; rfl)
  refine wpS_ite (fun q => ?_) fun q => ?_
  · exact wpS_pure ⟨g, rfl, .inl ⟨_, _, _, _, _, _, rfl, J, by omega, i2, by omega⟩⟩
  · exact wpS_pure ⟨g, _, _, _, _, _, _, rfl, rfl, J, by omega, i2, by omega⟩
variable (H : Cmp prog w A E s κ item r n)
include H
theorem hmid_ok (P : MPre r n pa pb) {st : SortSt} (hK : kindOf st = κ) {x y g mg ac bc : Nat} (I : HiI r pa pb po na nb) (i1 : 1 ≤ na) (i2 : 2 ≤ nb) (i3 : x + 1 + y + na + nb ≤ pa.size + pb.size) (h : r (pvA pa (na - 1)) ≤ r (pvA pb (nb - 1))) :
    wpS (model prog w) A E s (mhMid (pa.map item) (pb.map item) mg ac bc na nb (po.map item)) (HiB r item pa pb st x y) (setG st g) := by
  unfold mhMid
  have la := I.la
  have lb := I.lb
  refine wpS_bind (elem_ok (by omega) ?_)
  dsimp only
  have J := I.stepB P (by omega) (by omega) h
  rw [map_push]
  refine wpS_ite (fun q => ?_) fun q => ?_
  · obtain ⟨pm, e, R⟩ := J.fst (item := item) P (eq_of_beq q)
    rw [e]; exact wpS_pure ⟨g, rfl, .inr ⟨pm, rfl, R⟩⟩
  have q' : nb - 1 ≠ 1 := fun h => q (by rw [h]; rfl)
  refine wpS_bind (elem_ok (by omega) ?_)
  refine wpS_bind (gallop_ok H (P.la _ (by omega)) P.lb (by omega) (by omega) (fun i j h1 h2 => P.sb _ _ (by omega) (by omega)) hK fun k l1 l2 l3 => ?_)
  simp only [if_true, Nat.zero_add] at l2 l3
  dsimp only
  have kz : 1 ≤ k := by
    rcases Nat.lt_or_ge 0 k with h | h
    · exact h
    · have h1 := l3 0 (by omega) (by omega)
      have h2 := P.fst (na - 1) (by omega)
      omega
  have J3 := HiI.blockB P (nb - 1 - k) k J (by omega) (by omega) fun i a b => by have := l3 i a b; omega
  have hle : r (pvA pb (k - 1)) ≤ r (pvA pa (na - 1)) := Nat.le_of_lt (l2 (k - 1) (by omega))
  refine wpS_ite (fun q => ?_) fun q => ?_
  · rw [map_extR]
    refine wpS_ite (fun q => ?_) fun q => ?_
    · obtain ⟨pm, e, R⟩ := J3.fst (item := item) P (eq_of_beq q)
      rw [e]; exact wpS_pure ⟨g, rfl, .inr ⟨pm, rfl, R⟩⟩
    have q' : k ≠ 1 := fun h => q (by rw [h]; rfl)
    refine wpS_ite (fun q => ?_) fun q => ?_
    · have := eq_of_beq q
      omega
    exact hend_ok P J3 i1 (by omega) (by omega) hle
  · have e : k = nb - 1 := by omega
    subst e
    exact hend_ok P J i1 (by omega) (by omega) hle
theorem mergeHi_ok (P : MPre r n pa pb) {Q : Array Keyed → SortSt → Prop} {st : SortSt} (hK : kindOf st = κ) (h : ∀ pm g, MRes r pa pb pm → Q (pm.map item) (setG st g)) : wpS (model prog w) A E s (mergeHi' (pa.map item) (pb.map item)) Q st := by
  rw [mergeHi'_eq]
  refine wpS_bind (wpS_lift (wpAny_rule ⟨rfl, ?_⟩))
  dsimp only
  have a1 := P.a1
  have b1 := P.b1
  have z1 : (pa.map item).size = pa.size := Array.size_map
  have z2 : (pb.map item).size = pb.size := Array.size_map
  rw [z1, z2]
  refine wpS_bind (elem_ok (by omega) ?_)
  have e0 : (#[item (pvA pa (pa.size - 1))] : Array Keyed) = (#[pvA pa (pa.size - 1)] : Array Nat).map item := by simp
  rw [e0]
  have I0 : HiI r pa pb #[pvA pa (pa.size - 1)] (pa.size - 1) pb.size := by
    refine ⟨?_, List.pairwise_singleton _ _, fun x hx h2 => ?_, fun x hx h2 => ?_, by omega, Nat.le_refl _⟩
    · rw [drop_pw (by omega), show pa.size - 1 + 1 = pa.size by omega, List.drop_of_length_le (by simp), List.drop_of_length_le (by simp)]; simp
    · rw [List.mem_singleton.mp hx]; exact P.sa _ _ (by omega) (by omega)
    · rw [List.mem_singleton.mp hx]; exact Nat.le_of_lt (P.lst _ (by omega))
  refine wpS_ite (fun q => ?_) fun q1 => ?_
  · obtain ⟨pm, e, R⟩ := I0.done (item := item) P (eq_of_beq q)
    rw [e]; exact wpS_pure (h pm (gallopOf st) R)
  refine wpS_ite (fun q => ?_) fun q2 => ?_
  · obtain ⟨pm, e, R⟩ := I0.fst (item := item) P (eq_of_beq q)
    rw [e]; exact wpS_pure (h pm (gallopOf st) R)
  refine wpS_bind (wpS_get ?_)
  have q1' : pa.size - 1 ≠ 0 := fun h => q1 (by rw [h]; rfl)
  have q2' : pb.size ≠ 1 := fun h => q2 (by rw [h]; rfl)
  refine wpS_bind (wpS_mono (wpS_forRange (I := fun x b st' => ∃ g na nb po mg, st' = setG st g ∧ b = (none, na, nb, po.map item, mg) ∧ HiI r pa pb po na nb ∧ 1 ≤ na ∧ 2 ≤ nb ∧ x + 1 + na + nb ≤ pa.size + pb.size)
    (Q := fun b st' => ∃ g pm, st' = setG st g ∧ b.1 = some (pm.map item) ∧ MRes r pa pb pm) ?_ ?_ ⟨gallopOf st, _, _, _, _, rfl, rfl, I0, by omega, by omega, by omega⟩) ?_)
  · rintro x b st' _ hx ⟨g, na, nb, po, mg, rfl, rfl, I, i1, i2, i3⟩
    dsimp only
    refine wpS_bind (wpS_mono (wpS_forRange (I := fun y b st' => st' = setG st g ∧ ∃ na nb po ac bc, b = (none, na, nb, po.map item, ac, bc) ∧ HiI r pa pb po na nb ∧ 1 ≤ na ∧ 2 ≤ nb ∧ x + 1 + na + nb ≤ pa.size + pb.size)
      (Q := fun b st' => st' = setG st g ∧ ((∃ na nb po ac bc, b = (none, na, nb, po.map item, ac, bc) ∧ HiI r pa pb po na nb ∧ 1 ≤ na ∧ 2 ≤ nb ∧ x + 1 + na + nb ≤ pa.size + pb.size) ∨ ∃ pm, b.1 = some (pm.map item) ∧ MRes r pa pb pm)) ?_ ?_ ⟨rfl, na, nb, po, 0, 0, rfl, I, i1, i2, i3⟩) ?_)
    · clear I i1 i2 i3
      rintro y b st' _ hy ⟨rfl, na, nb, po, ac, bc, rfl, I, i1, i2, i3⟩
      dsimp only
      have la := I.la
      have lb := I.lb
      refine wpS_bind (elem_ok (by omega) (wpS_bind (elem_ok (by omega) (wpS_bind (H _ _ (P.lb _ (by omega)) (P.la _ (by omega)) _ _ hK ?_)))))
      dsimp only
      refine wpS_ite (fun q => ?_) fun q => ?_
      · have q := of_decide_eq_true q
        have J := I.stepA P (by omega) (by omega) (Nat.le_of_lt q)
        refine wpS_bind (elem_ok (by omega) ?_)
        rw [map_push]
        refine wpS_ite (fun q => ?_) fun q => ?_
        · obtain ⟨pm, e, R⟩ := J.done (item := item) P (eq_of_beq q)
          rw [e]; exact wpS_pure ⟨rfl, .inr ⟨pm, rfl, R⟩⟩
        have q' : na - 1 ≠ 0 := fun h => q (by rw [h]; rfl)
        refine wpS_ite (fun q => ?_) fun q => ?_
        · exact wpS_pure ⟨rfl, .inl ⟨_, _, _, _, _, rfl, J, by omega, i2, by omega⟩⟩
        · exact wpS_pure ⟨rfl, _, _, _, _, _, rfl, J, by omega, i2, by omega⟩
      · have q : ¬ r (pvA pb (nb - 1)) < r (pvA pa (na - 1)) := fun h => q (decide_eq_true h)
        have J := I.stepB P (by omega) (by omega) (by omega)
        refine wpS_bind (elem_ok (by omega) ?_)
        rw [map_push]
        refine wpS_ite (fun q => ?_) fun q => ?_
        · obtain ⟨pm, e, R⟩ := J.fst (item := item) P (eq_of_beq q)
          rw [e]; exact wpS_pure ⟨rfl, .inr ⟨pm, rfl, R⟩⟩
        have q' : nb - 1 ≠ 1 := fun h => q (by rw [h]; rfl)
        refine wpS_ite (fun q => ?_) fun q => ?_
        · exact wpS_pure ⟨rfl, .inl ⟨_, _, _, _, _, rfl, J, i1, by omega, by omega⟩⟩
        · exact wpS_pure ⟨rfl, _, _, _, _, _, rfl, J, i1, by omega, by omega⟩
    · rintro b st' ⟨e, hh⟩
      exact ⟨e, .inl hh⟩
    · clear I i1 i2 i3
      rintro b st' ⟨rfl, ⟨na, nb, po, ac, bc, rfl, I, i1, i2, i3⟩ | ⟨pm, e, R⟩⟩
      · dsimp only
        refine wpS_bind (wpS_lift (wpAny_rule ⟨rfl, ?_⟩))
        refine wpS_bind (wpS_mono (wpS_forRange (I := fun y b st' => ∃ g na nb po mg ac bc, st' = setG st g ∧ b = (none, na, nb, po.map item, mg, ac, bc) ∧ HiI r pa pb po na nb ∧ 1 ≤ na ∧ 2 ≤ nb ∧ x + 1 + y + na + nb ≤ pa.size + pb.size)
          (Q := fun b st' => ∃ g, st' = setG st g ∧ ((∃ na nb po mg ac bc, b = (none, na, nb, po.map item, mg, ac, bc) ∧ HiI r pa pb po na nb ∧ 1 ≤ na ∧ 2 ≤ nb ∧ x + 2 + na + nb ≤ pa.size + pb.size) ∨ ∃ pm, b.1 = some (pm.map item) ∧ MRes r pa pb pm)) ?_ ?_ ⟨g, na, nb, po, _, _, _, rfl, rfl, I, i1, i2, by omega⟩) ?_)
        · clear I i1 i2 i3
          rintro y b st' _ hy ⟨g, na, nb, po, mg, ac, bc, rfl, rfl, I, i1, i2, i3⟩
          dsimp only
          have key : ∀ mg', wpS (model prog w) A E s (mhBody (pa.map item) (pb.map item) mg' ac bc na nb (po.map item)) (HiB r item pa pb st x y) (setG st g) := by
            intro mg'
            have la := I.la
            have lb := I.lb
            unfold mhBody
            refine wpS_bind (setG_ok ?_)
            refine wpS_bind (elem_ok (by omega) ?_)
            refine wpS_bind (gallop_ok H (P.lb _ (by omega)) P.la (by omega) (by omega) (fun i j h1 h2 => P.sa _ _ (by omega) (by omega)) hK fun k k1 k2 k3 => ?_)
            simp only [Bool.false_eq_true, if_false, Nat.zero_add] at k2 k3
            dsimp only
            have J := HiI.blockA P (na - k) k I (by omega) (by omega) fun i a b => by have := k3 i a b; omega
            have hle : 0 < k → r (pvA pa (k - 1)) ≤ r (pvA pb (nb - 1)) := fun _ => by
              have := k2 (k - 1) (by omega)
              omega
            refine wpS_ite (fun q => ?_) fun q => ?_
            · rw [map_extR]
              refine wpS_ite (fun q => ?_) fun q => ?_
              · obtain ⟨pm, e, R⟩ := J.done (item := item) P (eq_of_beq q)
                rw [e]; exact wpS_pure ⟨mg', rfl, .inr ⟨pm, rfl, R⟩⟩
              have q' : k ≠ 0 := fun h => q (by rw [h]; rfl)
              exact hmid_ok H P hK J (by omega) i2 (by omega) (hle (by omega))
            · have e : k = na := by omega
              subst e
              exact hmid_ok H P hK I (by omega) i2 (by omega) (hle (by omega))
          unfold mhBody mhMid mhEnd at key
          refine wpS_ite (fun q => ?_) fun q => ?_
          · refine Eq.mp ?_ (key (mg - 1)); congr 1
            · congr 1; funext u; congr 1; funext u; congr 1; funext u
              cases u with
              | none => rfl
              | some k =>
                dsimp only
                by_cases hk : na - k > 0
                · rw [if_pos hk, if_pos hk]; congr 1; congr 1; funext u; congr 1; congr 1; funext u; congr 1; funext u
                  cases u <;> rfl
                · rw [if_neg hk, if_neg hk]; congr 1; funext u; congr 1; congr 1; funext u; congr 1; funext u
                  cases u <;> rfl
            · funext r_1 st2; cases r_1 <;> rfl
          · refine Eq.mp ?_ (key mg); congr 1
            · congr 1; funext u; congr 1; funext u; congr 1; funext u
              cases u with
              | none => rfl
              | some k =>
                dsimp only
                by_cases hk : na - k > 0
                · rw [if_pos hk, if_pos hk]; congr 1; congr 1; funext u; congr 1; congr 1; funext u; congr 1; funext u
                  cases u <;> rfl
                · rw [if_neg hk, if_neg hk]; congr 1; funext u; congr 1; congr 1; funext u; congr 1; funext u
                  cases u <;> rfl
            · funext r_1 st2; cases r_1 <;> rfl
        · rintro b st' ⟨g, na, nb, po, mg, ac, bc, rfl, rfl, I, i1, i2, i3⟩
          exact ⟨g, rfl, .inl ⟨_, _, _, _, _, _, rfl, I, i1, i2, by omega⟩⟩
        · clear I i1 i2 i3
          rintro b st' ⟨g, rfl, ⟨na, nb, po, mg, ac, bc, rfl, I, i1, i2, i3⟩ | ⟨pm, e, R⟩⟩
          · dsimp only
            exact wpS_bind (setG_ok (wpS_pure ⟨_, _, _, _, _, rfl, rfl, I, i1, i2, by omega⟩))
          · rw [e]
            exact wpS_pure ⟨g, pm, rfl, rfl, R⟩
      · rw [e]
        exact wpS_pure ⟨g, pm, rfl, rfl, R⟩
  · rintro b st' ⟨g, na, nb, po, mg, rfl, rfl, I, i1, i2, i3⟩
    omega
  · rintro b st' ⟨g, pm, rfl, e, R⟩
    rw [e]
    exact wpS_pure (h pm g R)
end
def ascL (lo a nrem : Nat) : StateT SortSt Sem AscSt :=
  forIn [a:nrem] ((none, a) : AscSt) fun _ __s => do
    let __x ← ltAt' (lo + __s.snd) (lo + __s.snd - 1)
    match __x with
    | some smaller => if smaller = true then pure (ForInStep.done (none, __s.snd)) else pure (ForInStep.yield (none, __s.snd + 1))
    | _ => pure (ForInStep.done (some none, __s.snd))
def tailL (lo n nrem : Nat) : StateT SortSt Sem (Option Nat) := do
  reverseSlice' lo (lo + n)
  let __s ← ascL lo n nrem
  match __s.fst with
  | some r => pure r
  | none => pure (some __s.snd)
def descL (lo n nrem : Nat) : StateT SortSt Sem DescSt :=
  forIn [n:nrem] ((none, n, 0) : DescSt) fun _ __s => do
    let __x ← ltAt' (lo + __s.snd.fst) (lo + __s.snd.fst - 1)
    match __x with
    | some smaller =>
      if smaller = true then
        if __s.snd.snd > 0 then do
          reverseSlice' (lo + __s.snd.fst - (__s.snd.snd + 1)) (lo + __s.snd.fst)
          pure (ForInStep.yield (none, __s.snd.fst + 1, 0))
        else pure (ForInStep.yield (none, __s.snd.fst + 1, 0))
      else do
        let __x ← ltAt' (lo + __s.snd.fst - 1) (lo + __s.snd.fst)
        match __x with
        | some larger =>
          if larger = true then pure (ForInStep.done (none, __s.snd.fst, __s.snd.snd))
          else pure (ForInStep.yield (none, __s.snd.fst + 1, __s.snd.snd + 1))
        | _ => pure (ForInStep.done (some none, __s.snd.fst, __s.snd.snd))
    | _ => pure (ForInStep.done (some none, __s.snd.fst, __s.snd.snd))
def descPartL (lo n nrem : Nat) : StateT SortSt Sem (Option Nat) := do
  liftM (rule "list.sort.descending-run")
  let __s ← descL lo (n + 1) nrem
  match __s.fst with
  | some r => pure r
  | none =>
    if __s.snd.snd > 0 then do
      reverseSlice' (lo + __s.snd.fst - (__s.snd.snd + 1)) (lo + __s.snd.fst)
      tailL lo __s.snd.fst nrem
    else tailL lo __s.snd.fst nrem
theorem countRunL_eq (lo nrem : Nat) : countRun' lo nrem = (do
    let __s ← ascL lo 1 nrem
    match __s.fst with
    | some r => pure r
    | none =>
      if (__s.snd == nrem) = true then pure (some __s.snd)
      else if __s.snd > 1 then do
        let __x ← ltAt' lo (lo + __s.snd - 1)
        match __x with
        | some rose => if rose = true then pure (some __s.snd) else do
            reverseSlice' lo (lo + __s.snd)
            descPartL lo __s.snd nrem
        | _ => pure none
      else descPartL lo __s.snd nrem) := by
  rw [countRun'_eq]
  dsimp only
  unfold descPartL tailL descL ascL
  congr 1
  funext __s
  obtain ⟨r, n⟩ := __s
  cases r with
  | some r => rfl
  | none =>
    dsimp only
    split
    · rfl
    · split
      · congr 1
        funext x
        cases x with
        | none => rfl
        | some rose =>
          dsimp only
          split
          · rfl
          · congr 1; funext _u; congr 1; funext _u; congr 1; funext s2
            obtain ⟨r2, n2, q2⟩ := s2
            cases r2 with
            | some r2 => rfl
            | none =>
              dsimp only; split
              · congr 1; funext _v; congr 1; funext _w; congr 1; funext s3; obtain ⟨r3, n3⟩ := s3; cases r3 <;> rfl
              · congr 1; funext _w; congr 1; funext s3; obtain ⟨r3, n3⟩ := s3; cases r3 <;> rfl
      · congr 1; funext _u; congr 1; funext s2
        obtain ⟨r2, n2, q2⟩ := s2
        cases r2 with
        | some r2 => rfl
        | none =>
          dsimp only; split
          · congr 1; funext _v; congr 1; funext _w; congr 1; funext s3; obtain ⟨r3, n3⟩ := s3; cases r3 <;> rfl
          · congr 1; funext _w; congr 1; funext s3; obtain ⟨r3, n3⟩ := s3; cases r3 <;> rfl
abbrev stA (item : Nat → Keyed) (st : SortSt) (p : Array Nat) : SortSt := setArr st (p.map item)
def Srt (r : Nat → Nat) (p : Array Nat) (a b : Nat) : Prop := ∀ i j, a ≤ i → i ≤ j → j < b → r (pvA p i) ≤ r (pvA p j)
def Dsc (r : Nat → Nat) (p : Array Nat) (a b : Nat) : Prop := ∀ i j, a ≤ i → i ≤ j → j < b → r (pvA p j) ≤ r (pvA p i)
def Blw (p p' : Array Nat) (lo : Nat) : Prop := ∀ i, i < lo → pvA p' i = pvA p i
section
variable {prog : Program} {w : World} {A : Around} {E : Value → Shared → Prop} {s : Shared} {κ : SortKind} {item : Nat → Keyed} {r : Nat → Nat} {n : Nat} {p : Array Nat} {st : SortSt} {lo nrem : Nat}
theorem rev_ok {i j : Nat} {Q : Unit → SortSt → Prop} (h : Q () (stA item st (kas_rev p i j))) : wpS (model prog w) A E s (reverseSlice' i j) Q (stA item st p) := by
  refine wpS_reverse ?_
  have e : mirror (p.map item) i j ((j - i) / 2) = (kas_rev p i j).map item := kas_swaps_map item (fun k => i + k) (fun k => j - 1 - k) _ p
  show Q () (setArr st (mirror (p.map item) i j ((j - i) / 2)))
  rw [e]; exact h
theorem rev_same {i j c : Nat} (hj : j ≤ p.size) (h : ∀ k, i ≤ k → k < j → r (pvA p k) = c) (k : Nat) : r (pvA (kas_rev p i j) k) = r (pvA p k) := by
  rw [pvA_rev hj]
  by_cases hk : i ≤ k ∧ k < j
  · rw [if_pos hk, h k hk.1 hk.2, h _ (by omega) (by omega)]
  · rw [if_neg hk]
variable (H : Cmp prog w A E s κ item r n)
include H
theorem ltAt_ok {i j : Nat} {Q : Option Bool → SortSt → Prop} (hp : Bs n p) (hi : i < n) (hj : j < n) (hK : kindOf st = κ) (h : Q (some (decide (r (pvA p i) < r (pvA p j)))) (stA item st p)) : wpS (model prog w) A E s (ltAt' i j) Q (stA item st p) := by
  rw [ltAt'_eq]
  refine wpS_bind (wpS_get ?_)
  show wpS _ _ _ _ (do let x ← elem' (p.map item) i; let y ← elem' (p.map item) j; lt' x y) Q _
  refine wpS_bind (elem_ok (by rw [hp.size]; exact hi) (wpS_bind (elem_ok (by rw [hp.size]; exact hj) ?_)))
  exact H _ _ (hp.lt hi) (hp.lt hj) _ _ hK h
theorem ascL_ok {a : Nat} (hp : Bs n p) (h1 : 1 ≤ a) (h2 : a ≤ nrem) (h3 : lo + nrem ≤ n) (hK : kindOf st = κ) (hs : Srt r p lo (lo + a)) {Q : AscSt → SortSt → Prop}
    (h : ∀ m, a ≤ m → m ≤ nrem → Srt r p lo (lo + m) → (m = nrem ∨ r (pvA p (lo + m)) < r (pvA p (lo + m - 1))) → Q (none, m) (stA item st p)) : wpS (model prog w) A E s (ascL lo a nrem) Q (stA item st p) := by
  unfold ascL
  refine wpS_forRange (I := fun x b st' => st' = stA item st p ∧ b = (none, x) ∧ Srt r p lo (lo + x)) ?_ ?_ ⟨rfl, rfl, hs⟩
  · rintro x b st' hax hx ⟨rfl, rfl, hs⟩
    refine wpS_bind (ltAt_ok H hp (by omega) (by omega) hK ?_)
    dsimp only
    refine wpS_ite (fun q => ?_) fun q => ?_
    · exact wpS_pure (h x hax (by omega) hs (.inr (of_decide_eq_true q)))
    · have q : ¬ r (pvA p (lo + x)) < r (pvA p (lo + x - 1)) := fun h => q (decide_eq_true h)
      refine wpS_pure ⟨rfl, rfl, fun i j a b c => ?_⟩
      rcases Nat.lt_or_ge j (lo + x) with hj | hj
      · exact hs i j a b hj
      · have : j = lo + x := by omega
        subst this
        rcases Nat.lt_or_ge i (lo + x) with hi | hi
        · have := hs i (lo + x - 1) a (by omega) (by omega); omega
        · have : i = lo + x := by omega
          subst this; exact Nat.le_refl _
  · rintro b st' ⟨rfl, rfl, hs⟩
    have e : max a nrem = nrem := by omega
    rw [e] at hs ⊢
    exact h nrem h2 (Nat.le_refl _) hs (.inl rfl)
theorem tailL_ok {m : Nat} (hp : Bs n p) (h1 : 1 ≤ m) (h2 : m ≤ nrem) (h3 : lo + nrem ≤ n) (hK : kindOf st = κ) (hd : Dsc r p lo (lo + m)) {Q : Option Nat → SortSt → Prop}
    (h : ∀ m p', 1 ≤ m → m ≤ nrem → Bs n p' → Blw p p' lo → Srt r p' lo (lo + m) → Q (some m) (stA item st p')) : wpS (model prog w) A E s (tailL lo m nrem) Q (stA item st p) := by
  unfold tailL
  refine wpS_bind (rev_ok ?_)
  have z := hp.size
  refine wpS_bind (ascL_ok H (hp.rev lo (lo + m)) h1 h2 h3 hK (fun i j a b c => ?_) fun m' a b c _ => ?_)
  · rw [pvA_rev (by omega), pvA_rev (by omega), if_pos (by omega), if_pos (by omega)]
    exact hd _ _ (by omega) (by omega) (by omega)
  · exact wpS_pure (h m' _ (by omega) b (hp.rev _ _) (fun i hi => by rw [pvA_rev (by omega), if_neg (by omega)]) c)
theorem descL_ok {m : Nat} (hp : Bs n p) (h1 : 1 ≤ m) (h2 : m ≤ nrem) (h3 : lo + nrem ≤ n) (hK : kindOf st = κ) (hd : Dsc r p lo (lo + m)) {Q : DescSt → SortSt → Prop}
    (h : ∀ m' q p', m ≤ m' → m' ≤ nrem → Bs n p' → Blw p p' lo → Dsc r p' lo (lo + m') → q + 1 ≤ m' → (∀ i, lo + m' - (q + 1) ≤ i → i < lo + m' → r (pvA p' i) = r (pvA p' (lo + m' - 1))) → Q (none, m', q) (stA item st p')) :
    wpS (model prog w) A E s (descL lo m nrem) Q (stA item st p) := by
  unfold descL
  refine wpS_forRange (I := fun x b st' => ∃ q p', st' = stA item st p' ∧ b = (none, x, q) ∧ Bs n p' ∧ Blw p p' lo ∧ Dsc r p' lo (lo + x) ∧ q + 1 ≤ x ∧ ∀ i, lo + x - (q + 1) ≤ i → i < lo + x → r (pvA p' i) = r (pvA p' (lo + x - 1))) ?_ ?_
    ⟨0, p, rfl, rfl, hp, fun _ _ => rfl, hd, h1, fun i a b => by rw [show i = lo + m - 1 by omega]⟩
  · rintro x b st' hmx hx ⟨q, p', rfl, rfl, hp', hb, hd, hq, he⟩
    have z := hp'.size
    dsimp only
    refine wpS_bind (ltAt_ok H hp' (by omega) (by omega) hK ?_)
    dsimp only
    refine wpS_ite (fun c => ?_) fun c => ?_
    · have c := of_decide_eq_true c
      refine wpS_ite (fun c2 => ?_) fun c2 => ?_
      · refine wpS_bind (rev_ok (wpS_pure ?_))
        have e := rev_same (p := p') (r := r) (i := lo + x - (q + 1)) (j := lo + x) (by omega) he
        refine ⟨0, _, rfl, rfl, hp'.rev _ _, fun i hi => ?_, fun i j a b d => ?_, by omega, fun i a b => by rw [show i = lo + (x + 1) - 1 by omega]⟩
        · rw [pvA_rev (by omega), if_neg (by omega)]; exact hb i hi
        · rw [e, e]
          rcases Nat.lt_or_ge j (lo + x) with hj | hj
          · exact hd i j a b hj
          · have : j = lo + x := by omega
            subst this
            rcases Nat.lt_or_ge i (lo + x) with hi | hi
            · have := hd i (lo + x - 1) a (by omega) (by omega); omega
            · have : i = lo + x := by omega
              subst this; exact Nat.le_refl _
      · refine wpS_pure ⟨0, _, rfl, rfl, hp', hb, fun i j a b d => ?_, by omega, fun i a b => by rw [show i = lo + (x + 1) - 1 by omega]⟩
        rcases Nat.lt_or_ge j (lo + x) with hj | hj
        · exact hd i j a b hj
        · have : j = lo + x := by omega
          subst this
          rcases Nat.lt_or_ge i (lo + x) with hi | hi
          · have := hd i (lo + x - 1) a (by omega) (by omega); omega
          · have : i = lo + x := by omega
            subst this; exact Nat.le_refl _
    · have c : ¬ r (pvA p' (lo + x)) < r (pvA p' (lo + x - 1)) := fun h => c (decide_eq_true h)
      refine wpS_bind (ltAt_ok H hp' (by omega) (by omega) hK ?_)
      dsimp only
      refine wpS_ite (fun c2 => ?_) fun c2 => ?_
      · exact wpS_pure (h x q p' hmx (by omega) hp' hb hd hq he)
      · have c2 : ¬ r (pvA p' (lo + x - 1)) < r (pvA p' (lo + x)) := fun h => c2 (decide_eq_true h)
        have e : r (pvA p' (lo + x)) = r (pvA p' (lo + x - 1)) := by omega
        refine wpS_pure ⟨q + 1, _, rfl, rfl, hp', hb, fun i j a b d => ?_, by omega, fun i a b => ?_⟩
        · rcases Nat.lt_or_ge j (lo + x) with hj | hj
          · exact hd i j a b hj
          · have : j = lo + x := by omega
            subst this
            rcases Nat.lt_or_ge i (lo + x) with hi | hi
            · have := hd i (lo + x - 1) a (by omega) (by omega); omega
            · have : i = lo + x := by omega
              subst this; exact Nat.le_refl _
        · rw [show lo + (x + 1) - 1 = lo + x by omega]
          rcases Nat.lt_or_ge i (lo + x) with hi | hi
          · rw [e]; exact he i (by omega) hi
          · rw [show i = lo + x by omega]
  · rintro b st' ⟨q, p', rfl, rfl, hp', hb, hd, hq, he⟩
    have e : max m nrem = nrem := by omega
    rw [e] at hd hq he ⊢
    exact h nrem q p' h2 (Nat.le_refl _) hp' hb hd hq he
theorem descPartL_ok {m : Nat} (hp : Bs n p) (h2 : m + 1 ≤ nrem) (h3 : lo + nrem ≤ n) (hK : kindOf st = κ) (hd : Dsc r p lo (lo + (m + 1))) {Q : Option Nat → SortSt → Prop}
    (h : ∀ m p', 1 ≤ m → m ≤ nrem → Bs n p' → Blw p p' lo → Srt r p' lo (lo + m) → Q (some m) (stA item st p')) : wpS (model prog w) A E s (descPartL lo m nrem) Q (stA item st p) := by
  unfold descPartL
  refine wpS_bind (wpS_lift (wpAny_rule ⟨rfl, ?_⟩))
  refine wpS_bind (descL_ok H hp (by omega) h2 h3 hK hd fun m' q p' a b c d e f g => ?_)
  dsimp only
  have z := c.size
  refine wpS_ite (fun k => ?_) fun k => ?_
  · refine wpS_bind (rev_ok ?_)
    have e2 := rev_same (p := p') (r := r) (i := lo + m' - (q + 1)) (j := lo + m') (by omega) g
    refine tailL_ok H (c.rev _ _) (by omega) b h3 hK (fun i j a b d => by rw [e2, e2]; exact e i j a b d) fun m2 p2 a2 b2 c2 d2 e2 => h m2 p2 a2 b2 c2 (fun i hi => ?_) e2
    rw [d2 i hi, pvA_rev (by omega), if_neg (by omega)]; exact d i hi
  · exact tailL_ok H c (by omega) b h3 hK e fun m2 p2 a2 b2 c2 d2 e2 => h m2 p2 a2 b2 c2 (fun i hi => by rw [d2 i hi]; exact d i hi) e2
theorem countL_ok (hp : Bs n p) (h1 : 1 ≤ nrem) (h3 : lo + nrem ≤ n) (hK : kindOf st = κ) {Q : Option Nat → SortSt → Prop}
    (h : ∀ m p', 1 ≤ m → m ≤ nrem → Bs n p' → Blw p p' lo → Srt r p' lo (lo + m) → Q (some m) (stA item st p')) : wpS (model prog w) A E s (countRun' lo nrem) Q (stA item st p) := by
  rw [countRunL_eq]
  have z := hp.size
  refine wpS_bind (ascL_ok H hp (Nat.le_refl 1) h1 h3 hK (fun i j a b c => by rw [show i = j by omega]; exact Nat.le_refl _) fun m a b c d => ?_)
  dsimp only
  refine wpS_ite (fun q => ?_) fun q => ?_
  · exact wpS_pure (h m p a b hp (fun _ _ => rfl) c)
  have q : m ≠ nrem := fun e => q (by rw [e]; exact beq_self_eq_true _)
  have d := d.resolve_left q
  refine wpS_ite (fun k => ?_) fun k => ?_
  · refine wpS_bind (ltAt_ok H hp (by omega) (by omega) hK ?_)
    dsimp only
    refine wpS_ite (fun u => ?_) fun u => ?_
    · exact wpS_pure (h m p a b hp (fun _ _ => rfl) c)
    have u : ¬ r (pvA p lo) < r (pvA p (lo + m - 1)) := fun h => u (decide_eq_true h)
    have eq : ∀ i, lo ≤ i → i < lo + m → r (pvA p i) = r (pvA p lo) := fun i a1 b1 => by
      have x1 := c lo i (Nat.le_refl _) a1 b1
      have x2 := c i (lo + m - 1) a1 (by omega) (by omega)
      omega
    have e2 := rev_same (p := p) (r := r) (i := lo) (j := lo + m) (by omega) eq
    refine wpS_bind (rev_ok (descPartL_ok H (hp.rev _ _) (by omega) h3 hK (fun i j a b g => ?_) fun m2 p2 a2 b2 c2 d2 e2 => h m2 p2 a2 b2 c2 (fun i hi => ?_) e2))
    · rw [e2, e2]
      rcases Nat.lt_or_ge j (lo + m) with hj | hj
      · rw [eq i a (by omega), eq j (by omega) hj]; exact Nat.le_refl _
      · have : j = lo + m := by omega
        subst this
        rcases Nat.lt_or_ge i (lo + m) with hi | hi
        · rw [eq i a hi]; rw [eq (lo + m - 1) (by omega) (by omega)] at d; omega
        · rw [show i = lo + m by omega]; exact Nat.le_refl _
    · rw [d2 i hi, pvA_rev (by omega), if_neg (by omega)]
  · refine descPartL_ok H hp (by omega) h3 hK (fun i j a b g => ?_) h
    have : m = 1 := by omega
    subst this
    rcases Nat.lt_or_ge i j with hij | hij
    · rw [show i = lo by omega, show j = lo + 1 by omega]
      rw [show lo + 1 - 1 = lo by omega] at d; omega
    · rw [show i = j by omega]; exact Nat.le_refl _
theorem binL_ok {m ok : Nat} (hp : Bs n p) (h1 : 1 ≤ ok) (h2 : ok ≤ m) (h3 : lo + m ≤ n) (hK : kindOf st = κ) (hs : Srt r p lo (lo + ok)) {Q : Bool → SortSt → Prop}
    (h : ∀ p', Bs n p' → Blw p p' lo → Srt r p' lo (lo + m) → Q true (stA item st p')) : wpS (model prog w) A E s (binarySort' lo m ok) Q (stA item st p) := by
  rw [binarySort'_eq]
  have e1 : max ok 1 = ok := by omega
  rw [e1]
  refine wpS_bind (wpS_mono (wpS_forRange (I := fun k b st' => b = (none, ()) ∧ ∃ p', st' = stA item st p' ∧ Bs n p' ∧ Blw p p' lo ∧ Srt r p' lo (lo + k))
    (Q := fun b st' => b = (none, ()) ∧ ∃ p', st' = stA item st p' ∧ Bs n p' ∧ Blw p p' lo ∧ Srt r p' lo (lo + m)) ?_ ?_ ⟨rfl, p, rfl, hp, fun _ _ => rfl, hs⟩) ?_)
  · rintro k b st' hak hkm ⟨rfl, p', rfl, hp', hb, hs'⟩
    have z := hp'.size
    refine wpS_bind (wpS_mono (wpS_forRange (I := fun x b st' => st' = stA item st p' ∧ ∃ l u, b = (none, l, u) ∧ l ≤ u ∧ u ≤ k ∧ u - l ≤ k - x ∧
        (∀ i, i < l → r (pvA p' (lo + i)) ≤ r (pvA p' (lo + k))) ∧ (∀ i, u ≤ i → i < k → r (pvA p' (lo + k)) < r (pvA p' (lo + i))))
      (Q := fun b st' => st' = stA item st p' ∧ ∃ l u, b = (none, l, u) ∧ l ≤ k ∧
        (∀ i, i < l → r (pvA p' (lo + i)) ≤ r (pvA p' (lo + k))) ∧ (∀ i, l ≤ i → i < k → r (pvA p' (lo + k)) < r (pvA p' (lo + i)))) ?_ ?_ ⟨rfl, 0, k, rfl, by omega, by omega, by omega, fun i hi => by omega, fun i h1 h2 => by omega⟩) ?_)
    · rintro x b st' _ hx ⟨rfl, l, u, rfl, c1, c2, c3, c4, c5⟩
      dsimp only
      refine wpS_ite (fun q => ?_) fun q => ?_
      · exact wpS_pure ⟨rfl, l, u, rfl, by omega, c4, fun i a b => c5 i (by omega) b⟩
      · refine wpS_bind (ltAt_ok H hp' (by omega) (by omega) hK ?_)
        dsimp only
        refine wpS_ite (fun q => ?_) fun q => ?_
        · have q := of_decide_eq_true q
          exact wpS_pure ⟨rfl, _, _, rfl, by omega, by omega, by omega, c4, fun i a b => Nat.lt_of_lt_of_le q (hs' _ _ (by omega) (by omega) (by omega))⟩
        · have q : ¬ r (pvA p' (lo + k)) < r (pvA p' (lo + (l + u) / 2)) := fun h => q (decide_eq_true h)
          exact wpS_pure ⟨rfl, _, _, rfl, by omega, by omega, by omega, fun i a => Nat.le_trans (hs' (lo + i) (lo + (l + u) / 2) (by omega) (by omega) (by omega)) (by omega), c5⟩
    · rintro b st' ⟨rfl, l, u, rfl, c1, c2, c3, c4, c5⟩
      exact ⟨rfl, l, u, rfl, by omega, c4, fun i a b => c5 i (by omega) b⟩
    · rintro b st' ⟨rfl, l, u, rfl, c1, c4, c5⟩
      show wpS _ _ _ _ (do moveDown' (lo + k) (lo + l); pure (ForInStep.yield (none, ()))) _ _
      rw [moveDown'_eq]
      refine wpS_bind (wpS_modify (wpS_pure ⟨rfl, bubble p' (lo + k) (k - l), ?_, hp'.bub _ _, fun i hi => ?_, fun i j a b c => ?_⟩))
      · have e : bubble (p'.map item) (lo + k) (k - l) = (bubble p' (lo + k) (k - l)).map item := kas_swaps_map item (fun i => lo + k - i) (fun i => lo + k - i - 1) _ p'
        show setArr st (bubble (p'.map item) (lo + k) (lo + k - (lo + l))) = _
        rw [show lo + k - (lo + l) = k - l by omega, e]
      · rw [pvA_bub (by omega) (by omega), if_neg (by omega), if_neg (by omega)]; exact hb i hi
      · rw [pvA_bub (by omega) (by omega), pvA_bub (by omega) (by omega), show lo + k - (k - l) = lo + l by omega]
        have d4 : ∀ i, lo ≤ i → i < lo + l → r (pvA p' i) ≤ r (pvA p' (lo + k)) := fun i a b => by have := c4 (i - lo) (by omega); rwa [show lo + (i - lo) = i by omega] at this
        have d5 : ∀ i, lo + l ≤ i → i < lo + k → r (pvA p' (lo + k)) < r (pvA p' i) := fun i a b => by have := c5 (i - lo) (by omega) (by omega); rwa [show lo + (i - lo) = i by omega] at this
        repeat' split
        all_goals first
          | (exfalso; omega)
          | exact Nat.le_refl _
          | exact d4 _ (by omega) (by omega)
          | exact Nat.le_of_lt (d5 _ (by omega) (by omega))
          | exact hs' _ _ (by omega) (by omega) (by omega)
  · rintro b st' ⟨rfl, p', rfl, hp', hb, hs'⟩
    have e : max ok m = m := by omega
    rw [e] at hs'
    exact ⟨rfl, p', rfl, hp', hb, hs'⟩
  · rintro b st' ⟨rfl, p', rfl, hp', hb, hs'⟩
    exact wpS_pure (h p' hp' hb hs')
end
theorem mergeAt'_eq (i : Nat) : mergeAt' i = (do
  let s ← get
  let (some (sa, na, power), some (sb, nb, _)) := ((pendingOf s)[i]?, (pendingOf s)[i + 1]?) | unsupported "internal:list.sort.pending"
  set (setPending s (((pendingOf s).setIfInBounds i (sa, na + nb, power)).eraseIdxIfInBounds (i + 1)))
  let some k ← gallop' false (← elem' (arrOf s) sb) (arrOf s) sa na 0 | return false
  let (sa, na) := (sa + k, na - k)
  if na == 0 then return true
  let some nb ← gallop' true (← elem' (arrOf s) (sa + na - 1)) (arrOf s) sb nb (nb - 1) | return false
  if nb == 0 then return true
  let x := (arrOf s).extract sa sb
  let y := (arrOf s).extract sb (sb + nb)
  let merged ← if na ≤ nb then mergeLo' x y else mergeHi' x y
  modify fun s => setArr s (merged.toList.zipIdx.foldl (fun a (p, j) => a.setIfInBounds (sa + j) p) (arrOf s))
  return (failedOf (← get)).isNone) := rfl
def MRuns (r : Nat → Nat) (p : Array Nat) : List (Nat × Nat × Nat) → Nat → Nat → Prop
  | [], a, b => a = b
  | x :: l, a, b => x.1 = a ∧ 1 ≤ x.2.1 ∧ Srt r p a (a + x.2.1) ∧ MRuns r p l (a + x.2.1) b
section
variable {r : Nat → Nat} {p p' : Array Nat}
theorem MRuns.le : ∀ {l : List (Nat × Nat × Nat)} {a b : Nat}, MRuns r p l a b → a + l.length ≤ b
  | [], a, b, h => by rw [show a = b from h]; exact Nat.le_refl _
  | x :: l, a, b, h => by have := MRuns.le h.2.2.2; have := h.2.1; simp only [List.length_cons]; omega
theorem MRuns.same : ∀ {l : List (Nat × Nat × Nat)} {a b : Nat}, MRuns r p l a b → (∀ i, a ≤ i → i < b → pvA p' i = pvA p i) → MRuns r p' l a b
  | [], a, b, h, _ => h
  | x :: l, a, b, h, e => ⟨h.1, h.2.1, fun i j c d f => by
      have := MRuns.le h.2.2.2
      rw [e i (by omega) (by omega), e j (by omega) (by omega)]; exact h.2.2.1 i j c d f, MRuns.same h.2.2.2 fun i c d => e i (by omega) d⟩
theorem MRuns.app : ∀ {l l2 : List (Nat × Nat × Nat)} {a b : Nat}, MRuns r p (l ++ l2) a b → ∃ m, MRuns r p l a m ∧ MRuns r p l2 m b
  | [], l2, a, b, h => ⟨a, rfl, h⟩
  | x :: l, l2, a, b, h => by
    obtain ⟨m, h1, h2⟩ := MRuns.app h.2.2.2
    exact ⟨m, ⟨h.1, h.2.1, h.2.2.1, h1⟩, h2⟩
theorem MRuns.join : ∀ {l l2 : List (Nat × Nat × Nat)} {a m b : Nat}, MRuns r p l a m → MRuns r p l2 m b → MRuns r p (l ++ l2) a b
  | [], l2, a, m, b, h, h2 => by rw [show a = m from h]; exact h2
  | x :: l, l2, a, m, b, h, h2 => ⟨h.1, h.2.1, h.2.2.1, MRuns.join h.2.2.2 h2⟩
theorem MRuns.modify (f : Nat × Nat × Nat → Nat × Nat × Nat) (hf : ∀ x, (f x).1 = x.1 ∧ (f x).2.1 = x.2.1) : ∀ {l : List (Nat × Nat × Nat)} {a b : Nat} (k : Nat), MRuns r p l a b → MRuns r p (l.modify k f) a b
  | [], a, b, k, h => by cases k <;> exact h
  | x :: l, a, b, 0, h => by
    have e := hf x
    show (f x).1 = a ∧ 1 ≤ (f x).2.1 ∧ Srt r p a (a + (f x).2.1) ∧ MRuns r p l (a + (f x).2.1) b
    rw [e.1, e.2]; exact h
  | x :: l, a, b, k + 1, h => ⟨h.1, h.2.1, h.2.2.1, MRuns.modify f hf k h.2.2.2⟩
end
theorem fold_set {α : Type} (o : Nat) : ∀ (l : List α) (k : Nat) (a : Array α), o + k + l.length ≤ a.size →
    ((l.zipIdx k).foldl (fun a (x : α × Nat) => a.setIfInBounds (o + x.2) x.1) a).toList = a.toList.take (o + k) ++ l ++ a.toList.drop (o + k + l.length)
  | [], k, a, h => by simp
  | x :: l, k, a, h => by
    simp only [List.length_cons] at h
    rw [List.zipIdx_cons, List.foldl_cons, fold_set o l (k + 1) _ (by simp only [Array.size_setIfInBounds]; omega)]
    simp only [Array.toList_setIfInBounds]
    rw [List.drop_set_of_lt (by omega), show o + (k + 1) + l.length = o + k + (x :: l).length by simp only [List.length_cons]; omega]
    congr 1
    rw [show o + (k + 1) = o + k + 1 by omega, List.take_add_one, List.take_set_of_le (Nat.le_refl _), List.getElem?_set_self (by simp; omega)]
    simp
theorem wpS_set {M : Model} {A : Around} {E : Value → Shared → Prop} {s : Shared} {σ : Type} {x : σ} {Q : PUnit → σ → Prop} {st : σ} (h : Q ⟨⟩ x) : wpS M A E s (set x : StateT σ Sem PUnit) Q st := by
  unfold wpS; rw [StateT.run_set]; exact wpAny_pure ⟨rfl, h⟩
theorem pvA_ext {p : Array Nat} {a b i : Nat} (h : i < b - a) (hb : b ≤ p.size) : pvA (p.extract a b) i = pvA p (a + i) := by
  apply pvA_of
  rw [Array.getElem?_extract]
  rw [if_pos (by omega)]
theorem pvA_mid {p pm : Array Nat} {a e : Nat} (he : e ≤ p.size) (ha : a ≤ e) (hz : pm.size = e - a) (i : Nat) :
    pvA (p.toList.take a ++ pm.toList ++ p.toList.drop e).toArray i = if i < a then pvA p i else if i < e then pvA pm (i - a) else pvA p i := by
  by_cases h1 : i < a
  · rw [if_pos h1]
    apply pvA_of
    rw [List.getElem?_toArray, List.append_assoc, List.getElem?_append_left (by simp; omega), List.getElem?_take_of_lt h1, Array.getElem?_toList]
  · rw [if_neg h1]
    by_cases h2 : i < e
    · rw [if_pos h2]
      apply pvA_of
      rw [List.getElem?_toArray, List.append_assoc, List.getElem?_append_right (by simp; omega), List.getElem?_append_left (by simp; omega), Array.getElem?_toList]
      congr 1; simp; omega
    · rw [if_neg h2]
      apply pvA_of
      rw [List.getElem?_toArray, List.getElem?_append_right (by simp; omega), List.getElem?_drop, Array.getElem?_toList]
      congr 1; simp; omega
structure SI (κ : SortKind) (item : Nat → Keyed) (st : SortSt) (p : Array Nat) (pend : Array (Nat × Nat × Nat)) : Prop where
  kind : kindOf st = κ
  arr : arrOf st = p.map item
  pend : pendingOf st = pend
  ok : failedOf st = none
section
variable {prog : Program} {w : World} {A : Around} {E : Value → Shared → Prop} {s : Shared} {κ : SortKind} {item : Nat → Keyed} {r : Nat → Nat} {n : Nat} {p : Array Nat} {st : SortSt} {pend : Array (Nat × Nat × Nat)}
theorem MRes.srt {pa pb pm : Array Nat} (R : MRes r pa pb pm) : ∀ i j, i ≤ j → j < pm.size → r (pvA pm i) ≤ r (pvA pm j) := by
  intro i j hij hj
  rcases Nat.lt_or_ge i j with h | h
  · have := List.pairwise_iff_getElem.mp R.so i j (by simp; omega) (by simpa using hj) h
    have hi : i < pm.size := by omega
    have e1 : pvA pm i = pm.toList[i]'(by simpa using hi) := by simp [pvA, Array.getD, hi]
    have e2 : pvA pm j = pm.toList[j]'(by simpa using hj) := by simp [pvA, Array.getD, hj]
    rw [e1, e2]; exact this
  · rw [show i = j by omega]; exact Nat.le_refl _
variable (H : Cmp prog w A E s κ item r n)
include H
theorem mergeAt_ok {i hi : Nat} (S : SI κ item st p pend) (hp : Bs n p) (R : MRuns r p pend.toList 0 hi) (hi' : i + 1 < pend.size) (hn : hi ≤ n) {Q : Bool → SortSt → Prop}
    (h : ∀ st' p' pend', SI κ item st' p' pend' → Bs n p' → MRuns r p' pend'.toList 0 hi → pend'.size + 1 = pend.size → (∀ j, hi ≤ j → pvA p' j = pvA p j) → Q true st') : wpS (model prog w) A E s (mergeAt' i) Q st := by
  rw [mergeAt'_eq]
  refine wpS_bind (wpS_get ?_)
  obtain ⟨pre, x, y, post, e, el⟩ : ∃ pre x y post, pend.toList = pre ++ x :: y :: post ∧ pre.length = i := by
    refine ⟨pend.toList.take i, pend.toList[i]'(by simp; omega), pend.toList[i + 1]'(by simp; omega), pend.toList.drop (i + 2), ?_, by simp; omega⟩
    rw [← List.drop_eq_getElem_cons, ← List.drop_eq_getElem_cons, List.take_append_drop]
  obtain ⟨sa, na, pw⟩ := x
  obtain ⟨sb, nb, q⟩ := y
  have g1 : pend[i]? = some (sa, na, pw) := by rw [← Array.getElem?_toList, e]; simp [← el]
  have g2 : pend[i + 1]? = some (sb, nb, q) := by rw [← Array.getElem?_toList, e]; simp [← el]
  rw [S.pend, g1, g2]
  dsimp only
  obtain ⟨pend', hpe⟩ : ∃ x, x = ((pend.setIfInBounds i (sa, na + nb, pw)).eraseIdxIfInBounds (i + 1)) := ⟨_, rfl⟩
  have e' : pend'.toList = pre ++ (sa, na + nb, pw) :: post := by
    rw [hpe]
    simp only [Array.toList_eraseIdxIfInBounds, Array.toList_setIfInBounds, e, ← el]
    simp [List.eraseIdx_append_of_length_le]
  have sz : pend'.size + 1 = pend.size := by
    have a1 : pend'.size = pend'.toList.length := by simp
    have a2 : pend.size = pend.toList.length := by simp
    rw [a1, a2, e', e]; simp; omega
  rw [← hpe]
  refine wpS_bind (wpS_set ?_)
  rw [S.arr]
  have zp := hp.size
  rw [e] at R
  obtain ⟨m, R1, R2⟩ := R.app
  obtain ⟨c1, c2, c3, d1, d2, d3, R3⟩ := R2
  dsimp only at c1 c2 c3 d1 d2 d3 R3
  subst c1
  subst d1
  have le3 := R3.le
  have S1 : SI κ item (setPending st pend') p pend' := ⟨S.kind, S.arr, rfl, S.ok⟩
  have fin : ∀ st' p', SI κ item st' p' pend' → Bs n p' → Srt r p' sa (sa + (na + nb)) → (∀ j, j < sa → pvA p' j = pvA p j) → (∀ j, sa + na + nb ≤ j → pvA p' j = pvA p j) → Q true st' := fun st' p' S' B so b1 b2 => by
    refine h st' p' pend' S' B ?_ sz fun j hj => b2 j (by omega)
    rw [e']
    refine (R1.same fun j _ b => b1 j b).join ⟨rfl, by dsimp only; omega, so, ?_⟩
    rw [show sa + (na + nb) = sa + na + nb by omega]
    exact R3.same fun j a _ => b2 j a
  have hlo : Lo n p := fun i hi => hp.lt (by omega)
  refine wpS_bind (elem_ok (by omega) ?_)
  refine wpS_bind (gallop_ok H (hp.lt (by omega)) hlo (by omega) (by omega) (fun i j a b => c3 _ _ (by omega) (by omega) (by omega)) S1.kind fun k k1 k2 k3 => ?_)
  simp only [Bool.false_eq_true, if_false] at k2 k3
  dsimp only
  refine wpS_ite (fun u => ?_) fun u => ?_
  · have u : na - k = 0 := eq_of_beq u
    refine wpS_pure (fin _ p S1 hp (fun i j a b c => ?_) (fun _ _ => rfl) fun _ _ => rfl)
    rcases Nat.lt_or_ge j (sa + na) with hj | hj
    · exact c3 i j a b hj
    · rcases Nat.lt_or_ge i (sa + na) with hi | hi
      · have x1 := k2 (i - sa) (by omega)
        rw [show sa + (i - sa) = i by omega] at x1
        have x2 := d3 (sa + na) j (Nat.le_refl _) hj (by omega)
        omega
      · exact d3 i j hi b (by omega)
  have u : na - k ≠ 0 := fun e => u (by rw [e]; rfl)
  have hf : ∀ i, sa + k ≤ i → i < sa + na → r (pvA p (sa + na)) < r (pvA p i) := fun i a b => by
    have := k3 (i - sa) (by omega) (by omega)
    rw [show sa + (i - sa) = i by omega] at this
    omega
  rw [show sa + k + (na - k) - 1 = sa + na - 1 by omega]
  refine wpS_bind (elem_ok (by omega) ?_)
  refine wpS_bind (gallop_ok H (hp.lt (by omega)) hlo (by omega) (by omega) (fun i j a b => d3 _ _ (by omega) (by omega) (by omega)) S1.kind fun t t1 t2 t3 => ?_)
  simp only [if_true] at t2 t3
  dsimp only
  refine wpS_ite (fun v => ?_) fun v => ?_
  · have v : t = 0 := eq_of_beq v
    have x1 := t3 0 (by omega) (by omega)
    have x2 := hf (sa + na - 1) (by omega) (by omega)
    exact absurd x2 x1
  have v : t ≠ 0 := fun e => v (by rw [e]; rfl)
  have pa1 : (p.map item).extract (sa + k) (sa + na) = (p.extract (sa + k) (sa + na)).map item := by simp
  have pb1 : (p.map item).extract (sa + na) (sa + na + t) = (p.extract (sa + na) (sa + na + t)).map item := by simp
  rw [pa1, pb1]
  have za : (p.extract (sa + k) (sa + na)).size = na - k := by simp; omega
  have zb : (p.extract (sa + na) (sa + na + t)).size = t := by simp; omega
  have P : MPre r n (p.extract (sa + k) (sa + na)) (p.extract (sa + na) (sa + na + t)) := by
    refine ⟨fun i hi => ?_, fun i hi => ?_, fun i j a b => ?_, fun i j a b => ?_, by omega, by omega, fun i hi => ?_, fun i hi => ?_⟩
    · rw [pvA_ext (by omega) (by omega)]; exact hp.lt (by omega)
    · rw [pvA_ext (by omega) (by omega)]; exact hp.lt (by omega)
    · rw [pvA_ext (by omega) (by omega), pvA_ext (by omega) (by omega)]; exact c3 _ _ (by omega) (by omega) (by omega)
    · rw [pvA_ext (by omega) (by omega), pvA_ext (by omega) (by omega)]; exact d3 _ _ (by omega) (by omega) (by omega)
    · rw [pvA_ext (by omega) (by omega), pvA_ext (by omega) (by omega)]; exact hf _ (by omega) (by omega)
    · rw [pvA_ext (by omega) (by omega), pvA_ext (by omega) (by omega), za]
      have := t2 i (by omega)
      rw [show sa + k + (na - k - 1) = sa + na - 1 by omega]; exact this
  have cont : ∀ pm g, MRes r (p.extract (sa + k) (sa + na)) (p.extract (sa + na) (sa + na + t)) pm → wpS (model prog w) A E s (do
      modify fun s => setArr s ((pm.map item).toList.zipIdx.foldl (fun a (x : Keyed × Nat) => a.setIfInBounds (sa + k + x.2) x.1) (arrOf s))
      return (failedOf (← get)).isNone) Q (setG (setPending st pend') g) := by
    intro pm g R'
    have zm : pm.size = na - k + t := by
      have := R'.perm.length_eq
      rw [List.length_append, Array.length_toList, Array.length_toList, Array.length_toList, za, zb] at this
      exact this
    refine wpS_bind (wpS_modify (wpS_bind (wpS_get (wpS_pure ?_))))
    obtain ⟨p', hp'⟩ : ∃ p', p' = (p.toList.take (sa + k) ++ pm.toList ++ p.toList.drop (sa + na + t)).toArray := ⟨_, rfl⟩
    have ea : (pm.map item).toList.zipIdx.foldl (fun a (x : Keyed × Nat) => a.setIfInBounds (sa + k + x.2) x.1) (p.map item) = p'.map item := by
      apply Array.toList_inj.mp
      rw [fold_set (sa + k) _ 0 _ (by simp; omega), hp']
      simp only [Array.toList_map, List.length_map, Array.length_toList, List.map_append, List.map_take, List.map_drop, Nat.add_zero, Array.toList_map]
      rw [zm, show sa + k + (na - k + t) = sa + na + t by omega]
    have mid := fun i => pvA_mid (p := p) (pm := pm) (a := sa + k) (e := sa + na + t) (by omega) (by omega) (by omega) i
    rw [← hp'] at mid
    have inm : ∀ i, i < pm.size → ∃ j, sa + k ≤ j ∧ j < sa + na + t ∧ pvA pm i = pvA p j := fun i hi => by
      have m1 : pvA pm i ∈ pm.toList := List.mem_of_getElem? (pvA_toList hi)
      have m2 := R'.perm.mem_iff.mp m1
      rcases List.mem_append.mp m2 with m3 | m3
      · obtain ⟨j, a, b, c⟩ := mem_drop_pw (k := 0) (p := p.extract (sa + k) (sa + na)) m3
        rw [pvA_ext (by omega) (by omega)] at c
        exact ⟨sa + k + j, by omega, by omega, c⟩
      · obtain ⟨j, a, b, c⟩ := mem_drop_pw (k := 0) (p := p.extract (sa + na) (sa + na + t)) m3
        rw [pvA_ext (by omega) (by omega)] at c
        exact ⟨sa + na + j, by omega, by omega, c⟩
    have B : Bs n p' := by
      refine Array.Perm.trans ?_ hp
      rw [Array.perm_iff_toList_perm, hp']
      have m1 := R'.perm
      have m2 : (p.extract (sa + k) (sa + na)).toList ++ (p.extract (sa + na) (sa + na + t)).toList ++ p.toList.drop (sa + na + t) = p.toList.drop (sa + k) := by
        simp only [Array.toList_extract, List.extract]
        have q1 : p.toList.drop (sa + na) = (p.toList.drop (sa + na)).take (sa + na + t - (sa + na)) ++ p.toList.drop (sa + na + t) := by
          have := (List.take_append_drop (sa + na + t - (sa + na)) (p.toList.drop (sa + na))).symm
          rw [List.drop_drop, show sa + na + (sa + na + t - (sa + na)) = sa + na + t by omega] at this
          exact this
        have q2 : p.toList.drop (sa + k) = (p.toList.drop (sa + k)).take (sa + na - (sa + k)) ++ p.toList.drop (sa + na) := by
          have := (List.take_append_drop (sa + na - (sa + k)) (p.toList.drop (sa + k))).symm
          rw [List.drop_drop, show sa + k + (sa + na - (sa + k)) = sa + na by omega] at this
          exact this
        rw [List.append_assoc, ← q1, ← q2]
      show (p.toList.take (sa + k) ++ pm.toList ++ p.toList.drop (sa + na + t)).Perm p.toList
      rw [List.append_assoc]
      refine ((m1.append_right _).append_left _).trans ?_
      rw [m2, List.take_append_drop]
    have S2 : SI κ item (setArr (setG (setPending st pend') g) (p'.map item)) p' pend' := ⟨S.kind, rfl, rfl, S.ok⟩
    have ef : (failedOf (setArr (setG (setPending st pend') g) (p'.map item))).isNone = true := by rw [S2.ok]; rfl
    have res := fin _ p' S2 B (fun i j a b c => ?_) (fun j hj => by rw [mid, if_pos (by omega)]) (fun j hj => by rw [mid, if_neg (by omega), if_neg (by omega)])
    · have e3 : arrOf (setG (setPending st pend') g) = p.map item := S.arr
      rw [e3, ea, ef]
      exact res
    · have lo1 : ∀ i j, sa ≤ i → i < sa + k → sa + k ≤ j → j < sa + na + nb → r (pvA p i) ≤ r (pvA p j) := fun i j a b c d => by
        rcases Nat.lt_or_ge j (sa + na) with hj | hj
        · exact c3 i j a (by omega) hj
        · have x1 := k2 (i - sa) (by omega)
          rw [show sa + (i - sa) = i by omega] at x1
          have x2 := d3 (sa + na) j (Nat.le_refl _) hj (by omega)
          omega
      have hi1 : ∀ i j, sa + k ≤ i → i < sa + na + t → sa + na + t ≤ j → j < sa + na + nb → r (pvA p i) ≤ r (pvA p j) := fun i j a b c d => by
        rcases Nat.lt_or_ge i (sa + na) with hi | hi
        · have x1 := t3 (j - (sa + na)) (by omega) (by omega)
          rw [show sa + na + (j - (sa + na)) = j by omega] at x1
          have x2 := c3 i (sa + na - 1) (by omega) (by omega) (by omega)
          omega
        · exact d3 i j hi (by omega) (by omega)
      rw [mid, mid]
      by_cases i1 : i < sa + k
      · rw [if_pos i1]
        by_cases j1 : j < sa + k
        · rw [if_pos j1]; exact c3 i j a b (by omega)
        · rw [if_neg j1]
          by_cases j2 : j < sa + na + t
          · rw [if_pos j2]
            obtain ⟨v, v1, v2, v3⟩ := inm (j - (sa + k)) (by omega)
            rw [v3]; exact lo1 i v a i1 v1 (by omega)
          · rw [if_neg j2]; exact lo1 i j a i1 (by omega) (by omega)
      · rw [if_neg i1]
        rw [if_neg (c := j < sa + k) (by omega)]
        by_cases i2 : i < sa + na + t
        · rw [if_pos i2]
          by_cases j2 : j < sa + na + t
          · rw [if_pos j2]; exact R'.srt _ _ (by omega) (by omega)
          · rw [if_neg j2]
            obtain ⟨v, v1, v2, v3⟩ := inm (i - (sa + k)) (by omega)
            rw [v3]; exact hi1 v j v1 v2 (by omega) (by omega)
        · rw [if_neg i2, if_neg (by omega)]
          exact d3 i j (by omega) b (by omega)
  refine wpS_ite (fun _ => ?_) fun _ => ?_
  · exact wpS_bind (mergeLo_ok H P S1.kind fun pm g R' => cont pm g R')
  · exact wpS_bind (mergeHi_ok H P S1.kind fun pm g R' => cont pm g R')
end
def runEnd (n lo m : Nat) : StateT SortSt Sem (ForInStep (Option Unit × Nat)) := do
  match (pendingOf (← get)).back? with
  | some (s1, n1, _) =>
    let s ← forIn [:n] ((none, ()) : Option Unit × Unit) fun _ _ => do
      let p := pendingOf (← get)
      match if p.size > 1 then p[p.size - 2]? else none with
      | some (_, _, older) =>
        if older ≤ power' n (2 * s1 + n1) (2 * s1 + n1 + n1 + m) n then pure (ForInStep.done (none, ()))
        else do
          if !(← mergeAt' (p.size - 2)) then pure (ForInStep.done (some (), ())) else pure (ForInStep.yield (none, ()))
      | _ => pure (ForInStep.done (none, ()))
    match s.fst with
    | some r => pure (ForInStep.done (some r, lo))
    | none => do
      modify fun s => setPending s ((pendingOf s).modify ((pendingOf s).size - 1) fun x => (x.1, x.2.1, power' n (2 * s1 + n1) (2 * s1 + n1 + n1 + m) n))
      modify fun s => setPending s ((pendingOf s).push (lo, m, 0))
      pure (ForInStep.yield (none, lo + m))
  | none => do
    modify fun s => setPending s ((pendingOf s).push (lo, m, 0))
    pure (ForInStep.yield (none, lo + m))
def RB (κ : SortKind) (item : Nat → Keyed) (r : Nat → Nat) (n x : Nat) (c : ForInStep (Option Unit × Nat)) (st' : SortSt) : Prop := match c with
  | .done c' => ∃ p' pend, c' = (none, n) ∧ SI κ item st' p' pend ∧ Bs n p' ∧ MRuns r p' pend.toList 0 n
  | .yield c' => ∃ lo p' pend, c' = (none, lo) ∧ SI κ item st' p' pend ∧ Bs n p' ∧ MRuns r p' pend.toList 0 lo ∧ lo ≤ n ∧ x + 1 ≤ lo
section
variable {prog : Program} {w : World} {A : Around} {E : Value → Shared → Prop} {s : Shared} {κ : SortKind} {item : Nat → Keyed} {r : Nat → Nat} {n : Nat} {p : Array Nat} {st : SortSt} {pend : Array (Nat × Nat × Nat)}
variable (H : Cmp prog w A E s κ item r n)
include H
theorem runEnd_ok {lo m x : Nat} (S3 : SI κ item st p pend) (hp3 : Bs n p) (R3 : MRuns r p pend.toList 0 lo) (m1 : 1 ≤ m) (m2 : lo + m ≤ n) (s3 : Srt r p lo (lo + m)) (l2 : x ≤ lo) : wpS (model prog w) A E s (runEnd n lo m) (RB κ item r n x) st := by
  have hj : ∀ (st4 : SortSt) (p4 : Array Nat) (pend4 : Array (Nat × Nat × Nat)), SI κ item st4 p4 pend4 → Bs n p4 → MRuns r p4 pend4.toList 0 lo → Srt r p4 lo (lo + m) → wpS (model prog w) A E s (do
      modify fun s => setPending s ((pendingOf s).push (lo, m, 0))
      pure (ForInStep.yield (none, lo + m))) (RB κ item r n x) st4 := by
    intro st4 p4 pend4 S4 hp4 R4 s4
    refine wpS_bind (wpS_modify (wpS_pure ⟨lo + m, p4, pend4.push (lo, m, 0), rfl, ⟨S4.kind, S4.arr, ?_, S4.ok⟩, hp4, ?_, m2, by omega⟩))
    · show (pendingOf st4).push _ = _; rw [S4.pend]
    · rw [Array.toList_push]; exact R4.join ⟨rfl, m1, s4, rfl⟩
  unfold runEnd
  refine wpS_bind (wpS_get ?_)
  rw [S3.pend]
  split
  · refine wpS_bind (wpS_mono (wpS_forRange (I := fun y b st' => b = (none, ()) ∧ ∃ p4 pend4, SI κ item st' p4 pend4 ∧ Bs n p4 ∧ MRuns r p4 pend4.toList 0 lo ∧ Srt r p4 lo (lo + m))
      (Q := fun b st' => b = (none, ()) ∧ ∃ p4 pend4, SI κ item st' p4 pend4 ∧ Bs n p4 ∧ MRuns r p4 pend4.toList 0 lo ∧ Srt r p4 lo (lo + m)) ?_ (fun _ _ h => h) ⟨rfl, p, pend, S3, hp3, R3, s3⟩) ?_)
    · rintro y b st5 _ hy ⟨rfl, p4, pend4, S4, hp4, R4, s4⟩
      refine wpS_bind (wpS_get ?_)
      rw [S4.pend]
      dsimp only
      by_cases hz : pend4.size > 1
      · rw [if_pos hz, Array.getElem?_eq_getElem (by omega)]
        dsimp only
        refine wpS_ite (fun _ => ?_) fun _ => ?_
        · exact wpS_pure ⟨rfl, p4, pend4, S4, hp4, R4, s4⟩
        · refine wpS_bind (mergeAt_ok H S4 hp4 R4 (by omega) (by omega) fun st6 p6 pend6 S6 hp6 R6 z6 b6 => ?_)
          refine wpS_pure ⟨rfl, p6, pend6, S6, hp6, R6, fun i j a b c => ?_⟩
          rw [b6 i a, b6 j (by omega)]; exact s4 i j a b c
      · rw [if_neg hz]
        exact wpS_pure ⟨rfl, p4, pend4, S4, hp4, R4, s4⟩
    · rintro b st5 ⟨rfl, p4, pend4, S4, hp4, R4, s4⟩
      dsimp only
      refine wpS_bind (wpS_modify ?_)
      refine hj _ p4 _ ⟨S4.kind, S4.arr, rfl, S4.ok⟩ hp4 ?_ s4
      show MRuns r p4 ((pendingOf st5).modify _ _).toList 0 lo
      rw [S4.pend, Array.toList_modify]
      refine MRuns.modify _ ?_ _ R4
      exact fun x => ⟨rfl, rfl⟩
  · exact hj _ p pend S3 hp3 R3 s3
theorem sortRuns_ok (S : SI κ item st p #[]) (hp : Bs n p) (h2 : 2 ≤ n) {Q : Unit → SortSt → Prop} (h : ∀ st' p', Bs n p' → Srt r p' 0 n → arrOf st' = p'.map item → failedOf st' = none → Q () st') : wpS (model prog w) A E s sortRuns' Q st := by
  rw [sortRuns'_eq]
  refine wpS_bind (wpS_get ?_)
  have zp : (arrOf st).size = n := by rw [S.arr, Array.size_map, hp.size]
  rw [zp]
  refine wpS_bind (wpS_mono (wpS_forRange (I := fun x b st' => ∃ lo p' pend, b = (none, lo) ∧ SI κ item st' p' pend ∧ Bs n p' ∧ MRuns r p' pend.toList 0 lo ∧ lo ≤ n ∧ x ≤ lo)
    (Q := fun b st' => ∃ p' pend, b = (none, n) ∧ SI κ item st' p' pend ∧ Bs n p' ∧ MRuns r p' pend.toList 0 n) ?_ ?_ ⟨0, p, #[], rfl, S, hp, rfl, by omega, by omega⟩) ?_)
  · rintro x b st' _ hx ⟨lo, p', pend, rfl, S', hp', R, l1, l2⟩
    refine wpS_ite (fun q => ?_) fun q => ?_
    · have : lo = n := by omega
      subst this
      exact wpS_pure ⟨p', pend, rfl, S', hp', R⟩
    have es : st' = stA item st' p' := by rw [stA, setArr, ← S'.arr]
    rw [es]
    refine wpS_bind (countL_ok H hp' (by omega) (by omega) S'.kind fun m p2 m1 m2 hp2 b2 s2 => ?_)
    have S2 : SI κ item (stA item st' p2) p2 pend := ⟨S'.kind, rfl, S'.pend, S'.ok⟩
    have R2 : MRuns r p2 pend.toList 0 lo := R.same fun i _ hi => b2 i hi
    dsimp only
    refine wpS_ite (fun c => ?_) fun c => ?_
    · refine wpS_bind (wpS_lift (wpAny_rule ⟨rfl, ?_⟩))
      refine wpS_bind (binL_ok H hp2 m1 (by omega) (by omega) S'.kind s2 fun p3 hp3 b3 s3 => ?_)
      have k := runEnd_ok (x := x) H (st := stA item st' p3) ⟨S'.kind, rfl, S'.pend, S'.ok⟩ hp3 (R2.same fun i _ hi => b3 i hi) (by omega) (by omega) s3 l2
      refine Eq.mp ?_ k
      unfold runEnd
      congr 1
      · rw [if_neg (by simp)]; congr 1; funext g; cases (pendingOf g).back? with
        | none => rfl
        | some y =>
          obtain ⟨s1, n1, q⟩ := y
          dsimp only
          congr 1
          funext s; obtain ⟨r, u⟩ := s; cases r <;> rfl
      · funext r_1 st2; cases r_1 <;> rfl
    · have k := runEnd_ok (x := x) H S2 hp2 R2 m1 (by omega) s2 l2
      refine Eq.mp ?_ k
      unfold runEnd
      congr 1
      · congr 1; funext g; cases (pendingOf g).back? with
        | none => rfl
        | some y =>
          obtain ⟨s1, n1, q⟩ := y
          dsimp only
          congr 1
          funext s; obtain ⟨r, u⟩ := s; cases r <;> rfl
      · funext r_1 st2; cases r_1 <;> rfl
  · rintro b st' ⟨lo, p', pend, rfl, S', hp', R, l1, l2⟩
    have : lo = n := by omega
    subst this
    exact ⟨p', pend, rfl, S', hp', R⟩
  · rintro b st' ⟨p', pend, rfl, S', hp', R⟩
    dsimp only
    refine wpS_bind (wpS_mono (wpS_forRange (I := fun y b st' => b = (none, ()) ∧ ∃ p4 pend4, SI κ item st' p4 pend4 ∧ Bs n p4 ∧ MRuns r p4 pend4.toList 0 n ∧ (pend4.size ≤ 1 ∨ pend4.size + y ≤ n))
      (Q := fun b st' => b = (none, ()) ∧ ∃ p4 pend4, SI κ item st' p4 pend4 ∧ Bs n p4 ∧ MRuns r p4 pend4.toList 0 n ∧ pend4.size ≤ 1) ?_ ?_ ⟨rfl, p', pend, S', hp', R, .inr (by have := R.le; simp at this; omega)⟩) ?_)
    · rintro y b st5 _ hy ⟨rfl, p4, pend4, S4, hp4, R4, z4⟩
      refine wpS_bind (wpS_get ?_)
      rw [S4.pend]
      refine wpS_ite (fun c => ?_) fun c => ?_
      · exact wpS_pure ⟨rfl, p4, pend4, S4, hp4, R4, c⟩
      · have key : ∀ i, i + 1 < pend4.size → wpS (model prog w) A E s (do
            let __do_lift ← mergeAt' i
            if (!__do_lift) = true then pure (ForInStep.done (some (), ())) else pure (ForInStep.yield (none, ()))) (fun (c : ForInStep (Option Unit × Unit)) st' => ∃ p4 pend4, c = .yield (none, ()) ∧ SI κ item st' p4 pend4 ∧ Bs n p4 ∧ MRuns r p4 pend4.toList 0 n ∧ (pend4.size ≤ 1 ∨ pend4.size + (y + 1) ≤ n)) st5 := fun i hi => by
          refine wpS_bind (mergeAt_ok H S4 hp4 R4 hi (Nat.le_refl _) fun st6 p6 pend6 S6 hp6 R6 z6 b6 => ?_)
          exact wpS_pure ⟨p6, pend6, rfl, S6, hp6, R6, by omega⟩
        refine wpS_mono (key _ ?_) ?_
        · repeat' split
          all_goals omega
        · rintro c st6 ⟨p6, pend6, rfl, hh⟩
          exact ⟨rfl, p6, pend6, hh⟩
    · rintro b st5 ⟨rfl, p4, pend4, S4, hp4, R4, z4⟩
      have e : max 0 n = n := by omega
      rw [e] at z4
      exact ⟨rfl, p4, pend4, S4, hp4, R4, by omega⟩
    · rintro b st5 ⟨rfl, p4, pend4, S4, hp4, R4, z4⟩
      refine wpS_pure (h st5 p4 hp4 ?_ S4.arr S4.ok)
      have zz : pend4.toList.length ≤ 1 := by simpa using z4
      match hl : pend4.toList, zz with
      | [], _ => rw [hl] at R4; have : 0 = n := R4; omega
      | [x], _ =>
        rw [hl] at R4
        have e : 0 + x.2.1 = n := R4.2.2.2
        have := R4.2.2.1
        rw [e] at this; exact this
end
theorem countP_lt {α : Type} {p q : α → Bool} : ∀ {l : List α}, (∀ x ∈ l, p x = true → q x = true) → ∀ {a : α}, a ∈ l → q a = true → p a = false → l.countP p < l.countP q
  | x :: l, h, a, ha, hq, hp => by
    have le : l.countP p ≤ l.countP q := List.countP_mono_left fun y hy => h y (List.mem_cons_of_mem _ hy)
    rw [List.countP_cons, List.countP_cons]
    rcases List.mem_cons.mp ha with rfl | ha
    · rw [hq, hp]; simp; omega
    · have := countP_lt (fun y hy => h y (List.mem_cons_of_mem _ hy)) ha hq hp
      cases hpx : p x with
      | false => simp; split <;> omega
      | true => rw [h x (List.mem_cons_self ..) hpx]; simp; exact this
theorem rank_lt {lt : Nat → Nat → Bool} {n : Nat} (W : WO lt n) {i j : Nat} (hi : i < n) (hj : j < n) : decide ((List.range n).countP (fun k => lt k i) < (List.range n).countP (fun k => lt k j)) = lt i j := by
  cases h : lt i j with
  | true =>
    apply decide_eq_true
    refine countP_lt (fun k hk hki => ?_) (List.mem_range.mpr hi) h ?_
    · have hk := List.mem_range.mp hk
      rcases W.neg k j i hk hj hi hki with z | z
      · exact z
      · have := W.asym i j hi hj h; rw [z] at this; cases this
    · exact W.refl hi
  | false =>
    apply decide_eq_false
    have : (List.range n).countP (fun k => lt k j) ≤ (List.range n).countP (fun k => lt k i) := List.countP_mono_left fun k hk hkj => by
      have hk := List.mem_range.mp hk
      rcases W.neg k i j hk hi hj hkj with z | z
      · exact z
      · rw [z] at h; cases h
    omega
theorem tim_runs {prog : Program} {w : World} {A : Around} {E : Value → Shared → Prop} {s : Shared} {κ : SortKind} {it : Array Keyed} {n : Nat} {lt : Nat → Nat → Bool} (W : WO lt n) (h2 : 2 ≤ n)
    (hc : ∀ i j (C : Bool → Shared → Prop), i < n → j < n → C (lt i j) s → kas_cmp prog w A κ it i j C s) {Q : Unit → SortSt → Shared → Prop}
    (hG : ∀ (p : Array Nat) (st : SortSt), Bs n p → SoTo lt p n → arrOf st = p.map (kas_item it) → failedOf st = none → Q () st s) : kasC (model prog w) A E sortRuns' Q (kas_st κ it (List.toArray (List.range n))) s := by
  have H : Cmp prog w A E s κ (kas_item it) (fun i => (List.range n).countP (fun k => lt k i)) n := by
    intro i j hi hj Q st hk hq
    rw [rank_lt W hi hj] at hq
    rw [lt'_eq]
    refine wpS_bind (wpS_get ?_)
    rw [hk]
    refine wpS_bind (wpS_lift (wpAny_attempt ?_))
    exact wpAny_mono (hc i j (fun b s' => s' = s ∧ b = lt i j) hi hj ⟨rfl, rfl⟩) (fun b s' h' => by obtain ⟨rfl, rfl⟩ := h'; exact ⟨rfl, wpS_pure hq⟩) fun _ _ e => e.elim
  have main := sortRuns_ok H (st := kas_st κ it (List.toArray (List.range n))) (p := (List.range n).toArray) ⟨rfl, rfl, rfl, rfl⟩ (Array.Perm.refl _) h2 (Q := fun _ st' => Q () st' s) (fun st' p' hp hs ha hf => hG p' st' hp (fun i j hij hj => ?_) ha hf)
  · exact wpAny_mono main (fun r s' h' => by obtain ⟨rfl, hq⟩ := h'; exact hq) fun _ _ e => e
  · have := hs i j (Nat.zero_le _) hij hj
    have e := rank_lt W (hp.lt hj) (hp.lt (i := i) (by omega))
    unfold le'
    rw [← e]
    dsimp only at this
    exact decide_eq_false (by omega)
end L2
set_option Elab.async false
set_option linter.all false
set_option maxRecDepth 100000
namespace L2
open PySem PySem.Spec PyProof.Rows PySem.W
section
variable {prog : Program} {w : World} {A : Around} {E : Value → Shared → Prop} {s : Shared}
theorem oneLt_tup {l b : Addr} {items items2 : Array Value} {r : Bool} {n n2 : Nat} {dd dd2 : Option Addr} {sl sl2 : Array (Option Value)} {Q : Bool → Shared → Prop} (hl : s.heap.get? l = some { cls := .type "tuple", dict := dd, data := .seq items n, slots := sl }) (hb : s.heap.get? b = some { cls := .type "tuple", dict := dd2, data := .seq items2 n2, slots := sl2 }) (hr : LtAt A.in1 s items.toList items2.toList r)
    (hu : A.units < cLine) (h : Q r s) : wpAny (model prog w) A (oneLt' true (.ref l) (.ref b)) Q E s := by
  rw [oneLt'_eq]
  simp only [if_true]
  refine wpAny_bind (wpAny_cRoomFor hu ?_)
  refine wpAny_bind (wpAny_callSpecialIfBound?_slot (T := "tuple") ⟨_, hl, rfl⟩ PySem.F.slot_tuple_lt (call_meets PySem.F.slot_tuple_lt ⟨_, hl, rfl⟩ PySem.F.entry_tuple_lt (PySem.F.args_tuple_lt_2 _ _) (tuple_lt_by l b items items2 n n2 dd dd2 sl sl2 r) ⟨hl, hb, hr, ?_⟩))
  exact wpAny_truthy_bool h
theorem mapM_by {M : Model} {α β : Type} {f : α → Sem β} (r : α → β) : ∀ (l : List α) {Q : List β → Shared → Prop}, (∀ v ∈ l, ∀ (Q' : β → Shared → Prop), Q' (r v) s → wpAny M A (f v) Q' E s) → Q (l.map r) s → wpAny M A (l.mapM f) Q E s
  | [], _, _, h => by rw [List.mapM_nil]; exact wpAny_pure h
  | x :: l, Q, hf, h => by
    rw [List.mapM_cons]
    exact wpAny_bind (hf x (.head _) _ (wpAny_bind (mapM_by r l (Q := fun bs s' => wpAny M A (pure (r x :: bs)) Q E s') (fun v hv => hf v (.tail _ hv)) (wpAny_pure h))))
def fstH (h : Heap) (v : Value) : Option Value := match v with
  | .ref a => match h.get? a with
    | some o => match o.data with
      | .seq its _ => its[0]?
      | _ => none
    | none => none
  | _ => none
end
section
variable {X : Cx} {pins : List (Addr × Obj)} {σ : St} {H : Hp} {s : Shared} {N : Fb}
theorem lex_D (I : Inv X pins σ H s) {prog : Program} {w : World} (A : Around) (hu : A.units + 40 < cLine) (b fin : Bool) {Q : Bool → Shared → Prop} : ∀ (xs ys : List D) (vs1 vs2 : List V) (us1 us2 : List Value) (i : Nat) (r : Bool), ltDs (ltN 5) xs ys = some r →
    DenL X.K N H xs vs1 → DenL X.K N H ys vs2 → Vals vs1 us1 → Vals vs2 us2 → fin = decide (xs.length < ys.length) →
    (b = false ∨ i ≠ 0 ∨ ((∀ x, xs.head? = some x → ∃ n, x = .int n) ∧ ∀ y, ys.head? = some y → ∃ n, y = .int n)) → Q r s → KatLex prog w A b fin Q (us1.zip us2) i s := by
  intro xs
  induction xs with
  | nil =>
    intro ys vs1 vs2 us1 us2 i r h d1 d2 r1 r2 hf hb q
    simp only [DenL] at d1; subst d1; cases r1
    rw [List.zip_nil_left]
    refine kat_nil ?_
    cases ys with
    | nil => simp only [ltDs] at h; cases h; rw [hf]; exact q
    | cons y ys => simp only [ltDs] at h; cases h; rw [hf]; simpa using q
  | cons x xs ih =>
    intro ys vs1 vs2 us1 us2 i r h d1 d2 r1 r2 hf hb q
    simp only [DenL] at d1; obtain ⟨w1, t1, e1, dw1, dt1⟩ := d1; subst e1
    cases r1 with
    | cons rw1 rt1 =>
      cases ys with
      | nil =>
        simp only [DenL] at d2; subst d2; cases r2
        rw [List.zip_nil_right]
        simp only [ltDs] at h; cases h
        refine kat_nil ?_
        rw [hf]; simpa using q
      | cons y ys =>
        simp only [DenL] at d2; obtain ⟨w2, t2, e2, dw2, dt2⟩ := d2; subst e2
        cases r2 with
        | cons rw2 rt2 =>
          rw [List.zip_cons_cons]
          simp only [ltDs] at h
          split at h
          · next ho =>
            rw [Bool.and_eq_true] at ho
            have he := (bothAt_D I deep A x y _ _ _ _ (by unfold deep; omega) ho.1 ho.2 dw1.p dw2.p rw1 rw2).2.1
            refine kat_cons ?_
            split at h
            · next e =>
              rw [e] at he
              refine he prog w _ _ ?_
              show KatGo prog w A b fin Q _ _ _ i true s
              unfold KatGo
              rw [if_pos rfl]
              exact ih ys _ _ _ _ (i + 1) r h dt1 dt2 rt1 rt2 (by rw [hf]; simp) (.inr (.inl (by omega))) q
            · next e =>
              rw [Bool.not_eq_true] at e
              rw [e] at he
              refine he prog w _ _ ?_
              refine kat_no ?_
              by_cases hm : (b && i == 0) = true
              · rw [hm]
                have hm' : b = true ∧ i = 0 := by simpa using hm
                rcases hb with z | z | ⟨z1, z2⟩
                · rw [hm'.1] at z; cases z
                · exact absurd hm'.2 z
                · obtain ⟨n1, rfl⟩ := z1 x rfl
                  obtain ⟨n2, rfl⟩ := z2 y rfl
                  have g1 := dw1.p.int
                  have g2 := dw2.p.int
                  subst g1 g2
                  obtain ⟨k1, rfl⟩ := rw1
                  obtain ⟨k2, rfl⟩ := rw2
                  simp only [ltN] at h
                  cases h
                  exact oneLt_int q
              · rw [Bool.not_eq_true] at hm
                rw [hm]
                refine kat_one _ _ ?_
                exact ltAt_D I 5 A x y _ _ _ _ r (by unfold deep; omega) h dw1.p dw2.p rw1 rw2 prog w _ (PySem.W.BoolBack Q) q
          · cases h
theorem ltAt_L (I : Inv X pins σ H s) (n : Nat) (A : Around) (hu : A.units + n + 1 + deep < cLine) {b : Bool} : ∀ (xs ys : List D) (vs1 vs2 : List V) (us1 us2 : List Value), ltDs (ltN n) xs ys = some b → DenL X.K N H xs vs1 → DenL X.K N H ys vs2 → Vals vs1 us1 → Vals vs2 us2 → LtAt A.in1 s us1 us2 b := by
  intro xs
  induction xs with
  | nil =>
    intro ys vs1 vs2 us1 us2 h d1 d2 r1 r2
    simp only [DenL] at d1; subst d1; cases r1
    cases ys with
    | nil => simp only [DenL] at d2; subst d2; cases r2; cases h; exact .nn
    | cons y ys => simp only [DenL] at d2; obtain ⟨w, t, e, _, _⟩ := d2; subst e; cases r2; cases h; exact .nc
  | cons x xs ihx =>
    intro ys vs1 vs2 us1 us2 h d1 d2 r1 r2
    simp only [DenL] at d1; obtain ⟨w1, t1, e1, dw1, dt1⟩ := d1; subst e1
    cases r1 with
    | cons rw1 rt1 =>
      cases ys with
      | nil => simp only [DenL] at d2; subst d2; cases r2; cases h; exact .cn
      | cons y ys =>
        simp only [DenL] at d2; obtain ⟨w2, t2, e2, dw2, dt2⟩ := d2; subst e2
        cases r2 with
        | cons rw2 rt2 =>
          simp only [ltDs] at h
          split at h
          · next ho =>
            rw [Bool.and_eq_true] at ho
            have he := (bothAt_D I deep A.in1 x y _ _ _ _ (by rw [in1_units]; omega) ho.1 ho.2 dw1.p dw2.p rw1 rw2).2.1
            split at h
            · next e => rw [e] at he; exact .eq he (ihx ys _ _ _ _ h dt1 dt2 rt1 rt2)
            · next e =>
              rw [Bool.not_eq_true] at e
              rw [e] at he
              exact .ne he fun prog wo E Q q => ltAt_D I n A.in1 x y _ _ _ _ b (by rw [in1_units]; omega) h dw1.p dw2.p rw1 rw2 prog wo E Q q
          · cases h
def KMode (b : Option Bool) (k : D) : Prop := match b with
  | some true => ∃ i r, k = .tup (.int i :: r)
  | some false => ∃ f r, k = .tup (.tup f :: r)
  | none => ∃ fs, k = .tup fs ∧ ∀ f, fs.head? = some f → ∃ g, f = .tup g
def KOk (b : Option Bool) (κ : SortKind) : Prop := match b with
  | some b => κ = tuples' b
  | none => κ = tuples' false ∨ κ = general' ∨ κ = oneType'
theorem KMode.tup {b : Bool} {k : D} (h : KMode (some b) k) : ∃ f r, k = .tup (f :: r) := by
  cases b with
  | true => obtain ⟨i, r, e⟩ := h; exact ⟨_, _, e⟩
  | false => obtain ⟨i, r, e⟩ := h; exact ⟨_, _, e⟩
theorem key_ltT (I : Inv X pins σ H s) {prog : Program} {w : World} (A : Around) (hu : A.units + 40 < cLine) (b r : Bool) {k1 k2 : D} {v1 v2 : V} {u1 u2 : Value} {Q : Bool → Shared → Prop} {E : Value → Shared → Prop} (h : ltN 6 k1 k2 = some r) (m1 : KMode (some b) k1) (m2 : KMode (some b) k2)
    (d1 : Den X.K N H k1 v1) (d2 : Den X.K N H k2 v2) (r1 : RelV v1 u1) (r2 : RelV v2 u2) (q : Q r s) : wpAny (model prog w) A (keyLt' (tuples' b) u1 u2) Q E s := by
  obtain ⟨f1, g1, e1⟩ := m1.tup
  obtain ⟨f2, g2, e2⟩ := m2.tup
  subst e1 e2
  simp only [Den] at d1 d2
  obtain ⟨a1, vs1, e1, q1, dl1⟩ := d1
  obtain ⟨a2, vs2, e2, q2, dl2⟩ := d2
  subst e1 e2
  cases r1
  cases r2
  obtain ⟨its1, rv1, p1, _⟩ := I.tuple q1
  obtain ⟨its2, rv2, p2, _⟩ := I.tuple q2
  obtain ⟨o1, ho1, _, n1, hd1⟩ := p1
  obtain ⟨o2, ho2, _, n2, hd2⟩ := p2
  refine kat_lt ho1 hd1 ho2 hd2 ?_
  have l1 := dl1.length
  have l2 := dl2.length
  have l3 := rv1.length
  have l4 := rv2.length
  have := lex_D I (prog := prog) (w := w) (N := N) A hu b (decide (its1.toArray.size < its2.toArray.size)) (Q := Q) (f1 :: g1) (f2 :: g2) vs1 vs2 its1 its2 0 r h dl1 dl2 rv1 rv2 (by rw [List.size_toArray, List.size_toArray, ← l3, ← l4, ← l1, ← l2]) (by
    cases b with
    | false => exact .inl rfl
    | true =>
      obtain ⟨i1, _, e1⟩ := m1
      obtain ⟨i2, _, e2⟩ := m2
      cases e1
      cases e2
      exact .inr (.inr ⟨fun x hx => by cases hx; exact ⟨_, rfl⟩, fun x hx => by cases hx; exact ⟨_, rfl⟩⟩)) q
  simpa using this
theorem key_lt (I : Inv X pins σ H s) {prog : Program} {w : World} (A : Around) (hu : A.units + 40 < cLine) (b : Option Bool) {κ : SortKind} (hκ : KOk b κ) (r : Bool) {k1 k2 : D} {v1 v2 : V} {u1 u2 : Value} {Q : Bool → Shared → Prop} {E : Value → Shared → Prop} (h : ltN 6 k1 k2 = some r) (m1 : KMode b k1) (m2 : KMode b k2)
    (d1 : Den X.K N H k1 v1) (d2 : Den X.K N H k2 v2) (r1 : RelV v1 u1) (r2 : RelV v2 u2) (q : Q r s) : wpAny (model prog w) A (keyLt' κ u1 u2) Q E s := by
  cases b with
  | some b => rw [show κ = tuples' b from hκ]; exact key_ltT I A hu b r h m1 m2 d1 d2 r1 r2 q
  | none =>
    rcases hκ with rfl | rfl | rfl
    · obtain ⟨f1, e1, _⟩ := m1
      obtain ⟨f2, e2, _⟩ := m2
      subst e1 e2
      simp only [Den] at d1 d2
      obtain ⟨a1, vs1, e1, q1, dl1⟩ := d1
      obtain ⟨a2, vs2, e2, q2, dl2⟩ := d2
      subst e1 e2
      cases r1
      cases r2
      obtain ⟨its1, rv1, p1, _⟩ := I.tuple q1
      obtain ⟨its2, rv2, p2, _⟩ := I.tuple q2
      obtain ⟨o1, ho1, _, n1, hd1⟩ := p1
      obtain ⟨o2, ho2, _, n2, hd2⟩ := p2
      refine kat_lt ho1 hd1 ho2 hd2 ?_
      have l1 := dl1.length
      have l2 := dl2.length
      have l3 := rv1.length
      have l4 := rv2.length
      have := lex_D I (prog := prog) (w := w) (N := N) A hu false (decide (its1.toArray.size < its2.toArray.size)) (Q := Q) f1 f2 vs1 vs2 its1 its2 0 r h dl1 dl2 rv1 rv2 (by rw [List.size_toArray, List.size_toArray, ← l3, ← l4, ← l1, ← l2]) (.inl rfl) q
      simpa using this
    · show wpAny (model prog w) A (oneLt' false _ _) Q E s
      exact kat_one _ _ (ltAt_D I 6 A k1 k2 _ _ _ _ r (by unfold deep; omega) h d1.p d2.p r1 r2 prog w _ (PySem.W.BoolBack Q) q)
    · obtain ⟨g1, e1, _⟩ := m1
      obtain ⟨g2, e2, _⟩ := m2
      subst e1 e2
      simp only [Den] at d1 d2
      obtain ⟨a1, vs1, e1, q1, dl1⟩ := d1
      obtain ⟨a2, vs2, e2, q2, dl2⟩ := d2
      subst e1 e2
      cases r1
      cases r2
      obtain ⟨its1, rv1, ⟨⟨cls, dd, data, sl⟩, ho1, hc1, n1, hd1⟩, _⟩ := I.tuple q1
      obtain ⟨its2, rv2, ⟨⟨cls2, dd2, data2, sl2⟩, ho2, hc2, n2, hd2⟩, _⟩ := I.tuple q2
      simp only at hc1 hd1 hc2 hd2
      subst hc1 hd1 hc2 hd2
      show wpAny (model prog w) A (oneLt' true _ _) Q E s
      exact oneLt_tup ho1 ho2 (by simpa using ltAt_L I 5 A (by unfold deep; omega) g1 g2 _ _ _ _ h dl1 dl2 rv1 rv2) (by omega) q
theorem key_kindT (I : Inv X pins σ H s) {M : Model} (b : Bool) : ∀ (ks : List D) (kvs : List V) (us : List Value), DenL X.K N H ks kvs → Vals kvs us → (∀ k ∈ ks, KMode (some b) k) →
    ∃ fs, KatTups s.heap us fs ∧ fs.length = us.length ∧ ∀ v ∈ fs, Looks M s.heap (typeOf v) (.type (if b then "int" else "tuple")) := by
  intro ks
  induction ks with
  | nil =>
    intro kvs us d r _
    simp only [DenL] at d; subst d; cases r
    exact ⟨[], KatTups.nil, rfl, fun _ h => nomatch h⟩
  | cons k ks ih =>
    intro kvs us d r hm
    simp only [DenL] at d; obtain ⟨v, t, e, dv, dt⟩ := d; subst e
    cases r with
    | cons rv rt =>
      obtain ⟨fs, h1, h2, h3⟩ := ih t _ dt rt fun k hk => hm k (List.mem_cons_of_mem _ hk)
      have m := hm k List.mem_cons_self
      obtain ⟨f, g, e⟩ := m.tup
      subst e
      simp only [Den] at dv
      obtain ⟨a, vs, e, q, dl⟩ := dv
      subst e
      cases rv
      obtain ⟨its, rv1, ⟨o, ho, hc, n, hd⟩, _⟩ := I.tuple q
      obtain ⟨w, vs', e, dw, _⟩ := dl
      subst e
      cases rv1 with
      | cons rw1 rt1 =>
        rename_i u us'
        refine ⟨u :: fs, KatTups.cons ho hc hd (by simp) h1, by simp [h2], fun v hv => ?_⟩
        rcases List.mem_cons.mp hv with e | hv
        · subst e
          intro A Q E s' hk hq
          cases b with
          | true =>
            obtain ⟨i, _, e⟩ := m
            cases e
            have g := dw.p.int
            subst g
            obtain ⟨t, rfl⟩ := rw1
            exact wpAny_typeOf (T := "int") rfl hq
          | false =>
            obtain ⟨i, _, e⟩ := m
            cases e
            simp only [Den] at dw
            obtain ⟨a2, vs2, e, q2, _⟩ := dw
            subst e
            cases rw1
            obtain ⟨_, _, ⟨o2, ho2, hc2, _⟩, _⟩ := I.tuple q2
            exact wpAny_typeOf (T := "tuple") ⟨o2, hk _ _ ho2, hc2⟩ hq
        · exact h3 v hv
theorem key_kindL (I : Inv X pins σ H s) : ∀ (ks : List D) (kvs : List V) (us : List Value), DenL X.K N H ks kvs → Vals kvs us → (∀ k ∈ ks, KMode none k) →
    (∀ u ∈ us, ∃ a o n, ∃ its : Array Value, u = .ref a ∧ s.heap.get? a = some o ∧ o.cls = .type "tuple" ∧ o.data = .seq its n) ∧ ((∀ k ∈ ks, KMode (some false) k) ∨ ∃ u ∈ us, fstH s.heap u = none) := by
  intro ks
  induction ks with
  | nil =>
    intro kvs us d r _
    simp only [DenL] at d; subst d; cases r
    exact ⟨fun _ h => (nomatch h), .inl fun _ h => (nomatch h)⟩
  | cons k ks ih =>
    intro kvs us d r hm
    simp only [DenL] at d; obtain ⟨v, t, e, dv, dt⟩ := d; subst e
    cases r with
    | cons rv rt =>
      obtain ⟨i1, i2⟩ := ih t _ dt rt fun k hk => hm k (List.mem_cons_of_mem _ hk)
      obtain ⟨g, e, hg⟩ := hm k List.mem_cons_self
      subst e
      simp only [Den] at dv
      obtain ⟨a, vs, e, q, dl⟩ := dv
      subst e
      cases rv
      obtain ⟨its, rv1, ⟨o, ho, hc, n, hd⟩, _⟩ := I.tuple q
      refine ⟨fun u hu => ?_, ?_⟩
      · rcases List.mem_cons.mp hu with e | hu
        · subst e; exact ⟨a, o, n, _, rfl, ho, hc, hd⟩
        · exact i1 u hu
      · rcases i2 with i2 | ⟨u, hu, e⟩
        · cases g with
          | nil =>
            refine .inr ⟨_, List.mem_cons_self, ?_⟩
            simp only [DenL] at dl; subst dl; cases rv1
            simp [fstH, ho, hd]
          | cons f g =>
            obtain ⟨g', rfl⟩ := hg f rfl
            refine .inl fun k hk => ?_
            rcases List.mem_cons.mp hk with e | hk
            · subst e; exact ⟨_, _, rfl⟩
            · exact i2 k hk
        · exact .inr ⟨u, List.mem_cons_of_mem _ hu, e⟩
theorem key_kind (I : Inv X pins σ H s) {M : Model} {A : Around} {E : Value → Shared → Prop} (b : Option Bool) (ks : List D) (kvs : List V) (us : List Value) (d : DenL X.K N H ks kvs) (r : Vals kvs us) (hm : ∀ k ∈ ks, KMode b k) (h2 : 2 ≤ us.length) {Q : SortKind → Shared → Prop} (q : ∀ κ, KOk b κ → Q κ s) : wpAny M A (keyKind' us.toArray) Q E s := by
  have T : ∀ b, (∀ k ∈ ks, KMode (some b) k) → Q (tuples' b) s → wpAny M A (keyKind' us.toArray) Q E s := fun b hm q => by
    obtain ⟨fs, k1, k2, k3⟩ := key_kindT I (M := M) b ks kvs us d r hm
    refine kat_kind k1 (by omega) k3 (by cases b <;> rfl) ?_
    have em : (Value.type (if b = true then "int" else "tuple") != Value.type "tuple") = b := by cases b <;> rfl
    rw [em]
    exact q
  cases b with
  | some b => exact T b hm (q _ rfl)
  | none =>
    obtain ⟨hT, hm⟩ := key_kindL I ks kvs us d r hm
    rcases hm with hm | ⟨u0, hu0, hz⟩
    · exact T false hm (q _ (.inl rfl))
    · have hL : ∀ v ∈ us, Looks M s.heap (typeOf v) (.type "tuple") := fun v hv => by
        obtain ⟨a, o, n, its, rfl, ho, hc, hd⟩ := hT v hv
        intro A Q E s' hk hq
        exact wpAny_typeOf (T := "tuple") ⟨o, hk _ _ ho, hc⟩ hq
      rw [keyKind'_eq, List.mapM_toArray, map_eq_pure_bind]
      refine wpAny_bind (wpAny_bind (mapM_by (fstH s.heap) _ (fun v hv Q' hq => ?_) (wpAny_pure ?_)))
      · obtain ⟨a, o, n, its, rfl, ho, hc, hd⟩ := hT v hv
        rw [kas_first_eq]
        refine wpAny_bind ((hL _ hv).here ?_)
        rw [if_neg (by first | decide | simp)]
        refine wpAny_bind (listItems_at ho hd (wpAny_pure ?_))
        have e : fstH s.heap (.ref a) = its[0]? := by simp [fstH, ho, hd]
        rw [← e]; exact hq
      · have hall : ¬ (((us.map (fstH s.heap)).toArray.all fun x => x.isSome) = true) := by
          simp only [List.all_toArray, List.all_map, List.all_eq_true]
          intro h
          have := h u0 hu0
          simp [hz] at this
        rw [if_neg hall]
        split
        · exact wpAny_pure (q _ (.inr (.inl rfl)))
        · rw [oneTypeOnly'_eq, List.mapM_toArray, map_eq_pure_bind]
          refine wpAny_bind (wpAny_bind (wpAny_bind (kas_mapM (r := .type "tuple") _ (fun v hv Q' hq => (hL v hv).here hq) (wpAny_pure ?_))))
          obtain ⟨v₁, rest, rfl⟩ : ∃ v₁ rest, us = v₁ :: rest := by
            match us, h2 with
            | v₁ :: rest, _ => exact ⟨v₁, rest, rfl⟩
          have hall : ((List.map (fun _ => Value.type "tuple") (v₁ :: rest)).toArray.all fun x => x == Value.type "tuple") = true := by
            simp only [List.all_toArray, List.all_map, List.all_eq_true]
            intro _ _
            rfl
          have h0 : (List.map (fun _ => Value.type "tuple") (v₁ :: rest)).toArray[0]? = some (Value.type "tuple") := by simp
          rw [h0]
          simp only [hall, if_true]
          exact wpAny_pure (wpAny_pure (q _ (.inr (.inr rfl))))
structure Off (X : Cx) (pins : List (Addr × Obj)) (a : Addr) : Prop where
  nL : a ≠ X.env.locals
  s0 : X.s₀.heap.objs.size ≤ a
  cl : ∀ x c, X.env.cells.lookup x = some c → c ≠ a
  pn : ∀ p ∈ X.pn ++ pins, p.1 ≠ a
  nf : a ∉ X.fs
theorem Inv.off (I : Inv X pins σ H s) {a : Addr} (h : s.heap.objs.size ≤ a) : Off X pins a where
  nL := fun e => by have h2 := I.lt; rw [← e] at h2; exact absurd (Nat.lt_of_lt_of_le h2 h) (Nat.lt_irrefl _)
  s0 := Nat.le_trans I.sz h
  cl := fun x c e z => by
    obtain ⟨v, o, ho, _⟩ := I.cell x c e
    have h2 := Heap.lt_size ho
    rw [z] at h2
    exact absurd (Nat.lt_of_lt_of_le h2 h) (Nat.lt_irrefl _)
  pn := fun p hp z => by
    have h2 := Heap.lt_size (I.pin p hp).1
    rw [z] at h2
    exact absurd (Nat.lt_of_lt_of_le h2 h) (Nat.lt_irrefl _)
  nf := I.nofs h
theorem Inv.pin1 {a : Addr} {o : Obj} (I : Inv X pins σ H s) (hH : H a = none) (f : Off X pins a) (e : s.heap.get? a = some o) (hc : ∀ v, o.data ≠ .cell v) : Inv X (pins ++ [(a, o)]) σ H s :=
  I.pins_of fun p hp => by
    rcases List.mem_append.mp hp with hp | hp
    · exact I.pin p (List.mem_append_right _ hp)
    · simp only [List.mem_singleton] at hp; subst hp; exact ⟨e, hH, f.nL, f.nf, hc⟩
theorem Inv.catch {a : Addr} {its : List Value} {n : Nat} {vs : List V} (I : Inv X pins σ H s) (hH : H a = none) (f : Off X pins a) (e : s.heap.get? a = some { cls := .type "list", data := .seq its.toArray n }) (hv : Vals vs its) (hz : vs.length ≤ sizeLine) : Inv X pins σ (upd H a (.lst vs)) s := by
  have ne : ∀ b u, H b = some u → b ≠ a := fun b u q z => by rw [z, hH] at q; cases q
  have := I.step (h' := s.heap) (g' := s.gens) (d' := s.drawn) (t' := s.toks) (ch := [a]) (H' := upd H a (.lst vs)) (fun b hb => by
      have e : b = a := by simpa using hb
      subst e
      exact ⟨.inr f.s0, f.nL, f.cl, f.pn⟩) (fun b o _ _ _ q _ => q) (fun b o _ _ _ q _ => ⟨o.slots, q⟩) (fun b o hb _ n => by rw [upd_ne (fun z => hb (by simp [z]))]; exact n) (fun b o _ q => ⟨o, q⟩)
    (fun b xs q => by rw [upd_ne (ne _ _ q)]; exact q) (fun b o u q => by rw [upd_ne (ne _ _ q)]; exact q) (fun b ps q => ⟨#[], by rw [upd_ne (ne _ _ q), q]; simp⟩) (fun m hm => hm) (fun b u q => by
      by_cases hb : b = a
      · subst hb
        rw [upd_same] at q
        cases q
        exact ⟨hz, its, n, hv, e⟩
      · rw [upd_ne hb] at q
        exact (I.hok b u q).stay (fun c v _ r => r) (fun c r => by rw [upd_ne (ne _ _ r)]; exact r) fun c xs r => by rw [upd_ne (ne _ _ r)]; exact r) I.bare
  exact this
end
end L2
set_option Elab.async false
set_option linter.all false
set_option maxRecDepth 100000
namespace L2
open PySem PySem.Spec PyProof.Rows PySem.W
def kfOf (F : List Sl → Option Rv) (x : D) : D := ((F [.val x]).map rvD).getD .non
def ltF (F : List Sl → Option Rv) (x y : D) : Bool := match ltN 6 (kfOf F x) (kfOf F y) with
  | some true => true
  | _ => false
theorem ltF_some {F : List Sl → Option Rv} {x y : D} {r : Bool} (h : ltN 6 (kfOf F x) (kfOf F y) = some r) : ltF F x y = r := by
  unfold ltF; rw [h]; cases r <;> rfl
structure SortOk (F : List Sl → Option Rv) (xs : List D) : Prop where
  few : xs.length < 1000
  tells : ∀ x ∈ xs, ∃ r, F [.val x] = some r
  mode : ∃ b, ∀ x ∈ xs, KMode b (kfOf F x)
  cmp : ∀ x ∈ xs, ∀ y ∈ xs, ∃ r, ltN 6 (kfOf F x) (kfOf F y) = some r
  asym : ∀ x ∈ xs, ∀ y ∈ xs, ltF F x y = true → ltF F y x = false
  neg : ∀ x ∈ xs, ∀ y ∈ xs, ∀ z ∈ xs, ltF F x z = true → ltF F x y = true ∨ ltF F y z = true
  anti : ∀ x ∈ xs, ∀ y ∈ xs, ltF F x y = false → ltF F y x = false → x = y
def insK (lt : D → D → Bool) (x : D) : List D → List D
  | [] => [x]
  | y :: r => if lt x y then x :: y :: r else y :: insK lt x r
def srtK (lt : D → D → Bool) : List D → List D
  | [] => []
  | x :: r => insK lt x (srtK lt r)
theorem insK_perm (lt : D → D → Bool) (x : D) : ∀ l, (insK lt x l).Perm (x :: l)
  | [] => .refl _
  | y :: r => by
    unfold insK
    split
    · exact .refl _
    · exact ((insK_perm lt x r).cons y).trans (.swap x y r)
theorem srtK_perm (lt : D → D → Bool) : ∀ l, (srtK lt l).Perm l
  | [] => .refl _
  | x :: r => (insK_perm lt x _).trans ((srtK_perm lt r).cons x)
theorem insK_pair {F : List Sl → Option Rv} {xs : List D} (h : SortOk F xs) {x : D} (hx : x ∈ xs) : ∀ l : List D, (∀ y ∈ l, y ∈ xs) → l.Pairwise (fun a b => ltF F b a = false) → (insK (ltF F) x l).Pairwise fun a b => ltF F b a = false
  | [], _, _ => by simp [insK]
  | y :: r, hm, hp => by
    obtain ⟨h1, h2⟩ := List.pairwise_cons.mp hp
    have hy := hm y List.mem_cons_self
    unfold insK
    split
    · next hl =>
      refine List.pairwise_cons.mpr ⟨fun z hz => ?_, hp⟩
      rcases List.mem_cons.mp hz with e | hz
      · subst e; exact h.asym x hx z hy hl
      · cases hc : ltF F z x with
        | false => rfl
        | true =>
          rcases h.neg z (hm z (List.mem_cons_of_mem _ hz)) y hy x hx hc with q | q
          · rw [h1 z hz] at q; cases q
          · rw [h.asym x hx y hy hl] at q; cases q
    · next hl =>
      rw [Bool.not_eq_true] at hl
      refine List.pairwise_cons.mpr ⟨fun z hz => ?_, insK_pair h hx r (fun z hz => hm z (List.mem_cons_of_mem _ hz)) h2⟩
      rcases List.mem_cons.mp ((insK_perm (ltF F) x r).subset hz) with e | hz
      · subst e; exact hl
      · exact h1 z hz
theorem srtK_pair {F : List Sl → Option Rv} {xs : List D} (h : SortOk F xs) : ∀ l : List D, (∀ y ∈ l, y ∈ xs) → (srtK (ltF F) l).Pairwise fun a b => ltF F b a = false
  | [], _ => .nil
  | x :: r, hm => insK_pair h (hm x List.mem_cons_self) _ (fun y hy => hm y (List.mem_cons_of_mem _ ((srtK_perm _ r).subset hy))) (srtK_pair h r fun y hy => hm y (List.mem_cons_of_mem _ hy))
noncomputable def sortK (F : List Sl → Option Rv) (xs : List D) : Option (List D) := gd (SortOk F xs) (some (srtK (ltF F) xs))
theorem SortOk.same {F : List Sl → Option Rv} {xs ys : List D} (h : SortOk F xs) (hp : ys.Perm xs) (hs : ys.Pairwise fun a b => ltF F b a = false) : ys = srtK (ltF F) xs :=
  List.Perm.eq_of_pairwise (le := fun a b => ltF F b a = false) (fun a b ha hb h1 h2 => h.anti a (hp.subset ha) b ((srtK_perm _ xs).subset hb) h2 h1) hs (srtK_pair h xs fun _ hy => hy) (hp.trans (srtK_perm _ xs).symm)
theorem sortK_eq {F : List Sl → Option Rv} {xs : List D} (h : SortOk F xs) : sortK F xs = some (srtK (ltF F) xs) := gd_pos h
theorem sortK_of {F : List Sl → Option Rv} {xs ys : List D} (h : sortK F xs = some ys) : SortOk F xs ∧ ys = srtK (ltF F) xs := by
  unfold sortK gd at h
  split at h
  · next hh => cases h; exact ⟨hh, rfl⟩
  · cases h
section
variable {X : Cx} {pins : List (Addr × Obj)} {σ : St} {H : Hp} {s : Shared} {N : Fb}
theorem den_pick {K : PySem.W.Frag} {ds : List D} {vs : List V} (h : DenL K N H ds vs) : ∀ (js : List Nat), (∀ j ∈ js, j < ds.length) → DenL K N H (js.map fun j => ds.getD j .non) (js.map fun j => vs.getD j .non)
  | [], _ => DenL.nil
  | j :: js, hj => by
    have hl := hj j List.mem_cons_self
    obtain ⟨v, e, d⟩ := h.get (List.getElem?_eq_getElem hl)
    refine DenL.cons ?_ (den_pick h js fun k hk => hj k (List.mem_cons_of_mem _ hk))
    have e1 : ds.getD j .non = ds[j] := by simp [List.getD, hl]
    have e2 : vs.getD j .non = v := by simp [List.getD, e]
    show Den K N H (ds.getD j .non) (vs.getD j .non)
    rw [e1, e2]; exact d
theorem vals_pick {vs : List V} {us : List Value} (h : Vals vs us) : ∀ (js : List Nat), Vals (js.map fun j => vs.getD j .non) (js.map fun j => us.getD j .none)
  | [] => .nil
  | j :: js => by
    refine .cons ?_ (vals_pick h js)
    induction h generalizing j with
    | nil => simp; rfl
    | cons a _ ih =>
      cases j with
      | zero => simpa using a
      | succ j => simpa using ih j
theorem sort_run (I : Inv X pins σ H s) {prog : Program} {w : World} (A : Around) (hu : A.units + 40 < cLine) {E : Value → Shared → Prop} {F : List Sl → Option Rv} {ds : List D} (h : SortOk F ds) {kvs : List V} {us items : List Value}
    (d : DenL X.K N H (ds.map (kfOf F)) kvs) (r : Vals kvs us) (hi : items.length = ds.length) {a : Addr} {e1 : Nat} {kS : Value} {P : PySem.Fin → Shared → Prop}
    (q : ∀ (p : List Nat) (st : SortSt), p.Perm (List.range ds.length) → (p.map fun j => ds.getD j .non) = srtK (ltF F) ds → Array.map (fun x => x.2) (arrOf st) = (p.map fun j => items.getD j .none).toArray → failedOf st = none → wpAny (model prog w) A (ksk_tail a false e1 kS st) P E s) :
    wpAny (model prog w) A (ksk_end a false items.toArray e1 kS us.toArray) P E s := by
  unfold ksk_end
  simp only [Bool.false_eq_true, if_false]
  have l1 := d.length
  have l2 := r.length
  rw [List.length_map] at l1
  by_cases h2 : items.toArray.size < 2
  · rw [if_pos h2]
    simp only [h2, if_true]
    have hz : us.length = items.length := by omega
    rw [List.size_toArray] at h2
    refine wpAny_bind (wpAny_pure ?_)
    refine wpAny_bind ?_
    show wpAny _ _ (pure ((), SortSt.mk' general' (us.toArray.zip items.toArray) #[] 7 none)) _ _ _
    refine wpAny_pure ?_
    refine q (List.range ds.length) (SortSt.mk' general' (us.toArray.zip items.toArray) #[] 7 none) (.refl _) ?_ ?_ rfl
    · have e : (List.range ds.length).map (fun j => ds.getD j .non) = ds := by
        apply List.ext_getElem?
        intro i
        by_cases hi : i < ds.length
        · simp [hi]
        · simp [hi]
      rw [e]
      refine h.same (.refl _) ?_
      match ds, hi with
      | [], _ => exact .nil
      | [a], _ => exact List.pairwise_singleton _ _
      | a :: b :: c, hi => simp at hi; omega
    · show Array.map (fun x => x.2) (us.toArray.zip items.toArray) = _
      have e : (List.range ds.length).map (fun j => items.getD j .none) = items := by
        rw [← hi]
        apply List.ext_getElem?
        intro i
        by_cases hi : i < items.length
        · simp [hi]
        · simp [hi]
      rw [e]
      rw [List.zip_toArray, List.map_toArray]
      congr 1
      exact List.map_snd_zip (by omega)
  · rw [if_neg h2]
    simp only [h2, if_false]
    rw [List.size_toArray] at h2
    obtain ⟨b, hb⟩ := h.mode
    refine wpAny_bind (key_kind I b (ds.map (kfOf F)) kvs us d r (fun k hk => by
      obtain ⟨x, hx, rfl⟩ := List.mem_map.mp hk
      exact hb x hx) (by omega) fun κ hκ => ?_)
    have hz : us.length = items.length := by omega
    have hsz : (us.toArray.zip items.toArray).size = ds.length := by simp; omega
    have hr := kas_range (us.toArray.zip items.toArray)
    rw [hsz] at hr
    have hst : SortSt.mk' κ (us.toArray.zip items.toArray) #[] 7 none = kas_st κ (us.toArray.zip items.toArray) (List.range ds.length).toArray := by
      unfold kas_st; rw [hr]
    refine wpAny_bind ?_
    rw [hst]
    have W : WO (fun i j => ltF F (ds.getD i .non) (ds.getD j .non)) ds.length := by
      have mem : ∀ i, i < ds.length → ds.getD i .non ∈ ds := fun i hi => by
        have e1 : ds.getD i .non = ds[i] := by simp [List.getD, hi]
        rw [e1]; exact List.getElem_mem hi
      exact ⟨fun a b ha hb hl => h.asym _ (mem a ha) _ (mem b hb) hl, fun a b c ha hb hc hl => h.neg _ (mem a ha) _ (mem b hb) _ (mem c hc) hl⟩
    have hc : ∀ i j (C : Bool → Shared → Prop), i < ds.length → j < ds.length → C (ltF F (ds.getD i .non) (ds.getD j .non)) s → kas_cmp prog w A κ (us.toArray.zip items.toArray) i j C s := fun i j C hi' hj' hq => by
      unfold kas_cmp
      rw [kat_item hz, kat_item hz]
      have mem : ∀ i, i < ds.length → ds.getD i .non ∈ ds := fun i hi => by
        have e1 : ds.getD i .non = ds[i] := by simp [List.getD, hi]
        rw [e1]; exact List.getElem_mem hi
      obtain ⟨rr, hrr⟩ := h.cmp _ (mem i hi') _ (mem j hj')
      rw [ltF_some hrr] at hq
      have den : ∀ i, i < ds.length → ∃ v, Den X.K N H (kfOf F (ds.getD i .non)) v ∧ RelV v (us.getD i .none) := fun i hi => by
        have e1 : ds.getD i .non = ds[i] := by simp [List.getD, hi]
        obtain ⟨v, ev, dv⟩ := d.get (i := i) (d := kfOf F ds[i]) (by simp [hi])
        refine ⟨v, by rw [e1]; exact dv, ?_⟩
        have := vals_pick r [i]
        cases this with
        | cons a _ =>
          have e2 : kvs.getD i .non = v := by simp [List.getD, ev]
          rw [← e2]
          exact a
      obtain ⟨v1, dv1, rv1⟩ := den i hi'
      obtain ⟨v2, dv2, rv2⟩ := den j hj'
      exact key_lt I A hu b hκ rr hrr (hb _ (mem i hi')) (hb _ (mem j hj')) dv1 dv2 rv1 rv2 hq
    refine tim_runs (Q := fun _ st s' => wpAny (model prog w) A (ksk_tail a false e1 kS st) P E s') W (by omega) hc fun p st hB hS ha hf => ?_
    have hperm : p.toList.Perm (List.range ds.length) := by
      have := hB.toList
      simpa using this
    refine q p.toList st hperm ?_ (kat_snds hz ha) hf
    refine h.same ?_ ?_
    · have e : (List.range ds.length).map (fun j => ds.getD j .non) = ds := by
        apply List.ext_getElem?
        intro i
        by_cases hi : i < ds.length
        · simp [hi]
        · simp [hi]
      have := hperm.map fun j => ds.getD j .non
      rw [e] at this
      exact this
    · rw [List.pairwise_map]
      rw [List.pairwise_iff_getElem]
      intro i j hi hj hij
      have hsz' := hB.size
      have := hS i j (by omega) (by simp at hj; omega)
      unfold le' pvA at this
      simp at hi hj
      simpa [Array.getD, hi, hj] using this
end
end L2
set_option Elab.async false
set_option linter.all false
set_option maxRecDepth 100000
namespace L2
open PySem PySem.Spec PyProof.Rows PySem.W
section
variable {X : Cx} {pins : List (Addr × Obj)} {σ : St} {H : Hp} {s : Shared} {N : Fb}
abbrev lob (its : List Value) (n : Nat) : Obj := { cls := .type "list", data := .seq its.toArray n }
theorem Inv.rawset {a : Addr} {its its' : List Value} {n : Nat} {f : Array Value → Array Value} (I : Inv X pins σ H s) (hH : H a = none) (o : Off X pins a) (e : s.heap.get? a = some (lob its n)) (hf : f its.toArray = its'.toArray) :
    ∃ n', (s.heap.update a (Obj.mapSeq f)).get? a = some (lob its' n') ∧ Inv X pins σ H { s with heap := s.heap.update a (Obj.mapSeq f) } := by
  have q := PySem.IsL.update e f
  rw [hf] at q
  exact ⟨_, q, I.turned (t' := s.toks) (fun b u hb hu => (Heap.get?_update_other s.heap (Obj.mapSeq f) (Ne.symm hb)).trans hu) hH o.nL (.inr o.s0) o.cl o.pn⟩
theorem lob_cell (its : List Value) (n : Nat) (v : Option Value) : (lob its n).data ≠ .cell v := nofun
theorem Off.more {a b : Addr} {o : Obj} (f : Off X pins a) (h : b ≠ a) : Off X (pins ++ [(b, o)]) a :=
  ⟨f.nL, f.s0, f.cl, fun p hp => by
    rw [← List.append_assoc] at hp
    rcases List.mem_append.mp hp with hp | hp
    · exact f.pn p hp
    · simp only [List.mem_singleton] at hp; subst hp; exact h, f.nf⟩
theorem Inv.pinGet {a : Addr} {o : Obj} (I : Inv X pins σ H s) (h : (a, o) ∈ pins) : s.heap.get? a = some o ∧ H a = none := ⟨(I.pin _ (List.mem_append_right _ h)).1, (I.pin _ (List.mem_append_right _ h)).2.1⟩
theorem tail_run {prog : Program} {w : World} (A : Around) {D kS : Addr} {e1 e2 : Nat} {us out : List Value} {vs : List V} {E : Value → Shared → Prop} {P : PySem.Fin → Shared → Prop} {st : SortSt} (I : Inv X (pins ++ [(D, lob [] e1)] ++ [(kS, lob us e2)]) σ H s)
    (fD : Off X pins D) (fK : Off X pins kS) (ne : D ≠ kS) (hus : us.length ≤ sizeLine) (hst : Array.map (fun x => x.2) (arrOf st) = out.toArray) (hf : failedOf st = none) (hv : Vals vs out) (hz : vs.length ≤ sizeLine)
    (q : ∀ s', Inv X pins σ (upd H D (.lst vs)) s' → P (.done (.ret .none)) s') : wpAny (model prog w) A (ksk_tail D false e1 (.ref kS) st) P E s := by
  obtain ⟨gk, hk⟩ := I.pinGet (a := kS) (List.mem_append_right _ List.mem_cons_self)
  obtain ⟨gd', hd⟩ := I.pinGet (a := D) (List.mem_append_left _ (List.mem_append_right _ List.mem_cons_self))
  have I1 : Inv X (pins ++ [(D, lob [] e1)]) σ H s := I.unpinned
  obtain ⟨n2, g2, I2⟩ := I1.rawset (f := fun _ => #[]) (its' := []) hk (fK.more ne) gk rfl
  unfold ksk_tail
  refine wpAny_bind (listUpdate_at gk rfl ?_ (by simpa using hus) (by simp))
  refine wpAny_bind (wpAny_letGo ?_)
  obtain ⟨gd2, _⟩ := I2.pinGet (a := D) (List.mem_append_right _ List.mem_cons_self)
  refine wpAny_bind (seqEpoch_at gd2 rfl ?_)
  have I3 : Inv X pins σ H _ := I2.unpinned
  have hol : out.length ≤ sizeLine := by rw [← hv.length]; exact hz
  obtain ⟨n3, g3, I4⟩ := I3.rawset (f := fun _ => out.toArray) (its' := out) hd fD gd2 rfl
  simp only [Bool.false_eq_true, if_false, hst]
  refine wpAny_bind (listUpdate_at gd2 rfl ?_ (by simp) (by simp; omega))
  have hb : (e1 != e1) = false := by simp
  rw [hf]
  simp only [hb, Bool.false_eq_true, if_false]
  exact wpAny_pure (q _ (I4.catch hd fD g3 hv hz))
variable {k : Nat} {fn : Addr} {fd : FuncData} {ps : List Str} {F : List Sl → Option Rv}
theorem key_run (Fo : FnOk X.prog X.w X.K X.mg X.base CX0 k fn fd ps (spD X.K F)) (hb : Binds X.K fd ps []) (I : Inv X pins σ H s) (A : Around) (hr : Room k A) (e0 : Env0 X.prog X.w X.K X.mg X.base A X.stack s H) (nh : ∀ a, N a → H a ≠ none) {x : D} {v : V} {u : Value} (d : Den X.K N H x v) (rv : RelV v u) {r : Rv} (hF : F [.val x] = some r)
    {E : Value → Shared → Prop} {Q : Value → Shared → Prop} (q : ∀ u' s' v' H', Inv X pins σ H' s' → Same H H' → Den X.K N H' (kfOf F x) v' → RelV v' u' → Q u' s') : wpAny (model X.prog X.w) A (call (.ref fn) [u]) Q E s := by
  have hsp : spD X.K F [v] H (fun v' H' => Same H H' ∧ Den X.K N H' (kfOf F x) v') E0 := by
    refine ⟨N, [.val x], r, nh, ?_, hF, fun v' H' hs ho => ⟨hs, ?_⟩⟩
    · exact ⟨v, [], rfl, d, rfl⟩
    · have e : kfOf F x = rvD r := by unfold kfOf; rw [hF]; rfl
      rw [e]
      cases r with
      | val y => exact ho
      | own ys fl =>
        obtain ⟨a, ws, e1, z1, z2, z3⟩ := ho
        simp only [rvD, Den]
        exact ⟨a, ws, e1, .of (fun z => nh a z z1) z2, z3.nw fun b hb => .inl (.inl hb)⟩
  have hl : ([u] : List Value).length = ps.length := by
    have := Fo.len _ _ _ _ hsp
    simpa using this
  refine wpAny_call (codeAny_mono (Fo.run A X.stack s H ⟨[u], []⟩ [u] [v] _ E0 hr e0 (by simpa using hb s [u] I.kIn (by simpa using hl)) (.cons rv .nil) hsp) fun r s' hq => ?_)
  cases r with
  | error e => exact False.elim hq
  | ok fl =>
    cases fl with
    | ret u' =>
      obtain ⟨v', H', I', rv', hs, hd⟩ := I.after hq
      exact q u' s' v' H' I' hs hd rv'
    | next => exact False.elim hq
    | brk => exact False.elim hq
    | cont => exact False.elim hq
theorem Same.none {H H' : Hp} (h : Same H H') {a : Addr} (e : H' a = none) : H a = none := by
  cases q : H a with
  | none => rfl
  | some o => rw [h a o q] at e; cases e
theorem rest_run (Fo : FnOk X.prog X.w X.K X.mg X.base CX0 k fn fd ps (spD X.K F)) (hb : Binds X.K fd ps []) (A : Around) (hr : Room k A) (hu : A.units + 40 < cLine) (hA : ∀ s H, Env0 X.prog X.w X.K X.mg X.base X.A X.stack s H → Env0 X.prog X.w X.K X.mg X.base A X.stack s H)
    {da kS : Addr} {e1 e0 : Nat} (I : Inv X (pins ++ [(da, lob [] e1)] ++ [(kS, lob [] e0)]) σ H s) (nh : ∀ a, N a → H a ≠ none) {items : List Value} {xs : List V} {ds : List D} (fD : Off X pins da) (fK : Off X pins kS) (ne : da ≠ kS) (rv : Vals xs items) (dn : DenL X.K N H ds xs) (ok : SortOk F ds)
    {E : Value → Shared → Prop} {P : PySem.Fin → Shared → Prop} (q : ∀ s' H' vs, Inv X pins σ (upd H' da (.lst vs)) s' → Same H H' → H' da = none → DenL X.K N H' (srtK (ltF F) ds) vs → P (.done (.ret .none)) s') :
    wpAny (model X.prog X.w) A (ksk_rest da (.ref fn) false items.toArray e1 (.ref kS)) P E s := by
  have l1 := dn.length
  have l2 := rv.length
  have few := ok.few
  have hsl : sizeLine = 16777216 := sizeLine_eq
  unfold ksk_rest
  refine wpAny_bind (wpAny_rule ?_)
  refine wpAny_bind (wpAny_forIn_array' _ (fun rest _ s' => ∃ (done : List Value) (H' : Hp) (us : List Value) (kvs : List V) (e2 : Nat), items = done ++ rest ∧ us.length = done.length ∧ Inv X (pins ++ [(da, lob [] e1)] ++ [(kS, lob us e2)]) σ H' s' ∧ Same H H' ∧ Vals kvs us ∧ DenL X.K N H' ((ds.take done.length).map (kfOf F)) kvs) _ ?_ ?_ items.toArray PUnit.unit ?_)
  · rintro u rest b s1 ⟨done, H1, us, kvs, e2, hi, hl, I1, sm, rk, dk⟩
    have hdl : done.length < ds.length := by
      have := congrArg List.length hi
      simp at this
      omega
    have hx : ds[done.length]? = some ds[done.length] := List.getElem?_eq_getElem hdl
    generalize ds[done.length] = x at hx
    obtain ⟨v, hv, dv⟩ := dn.get hx
    have ru : RelV v u := by
      have := vals_pick rv [done.length]
      cases this with
      | cons a _ =>
        have e1 : xs.getD done.length .non = v := by simp [List.getD, hv]
        have e2 : items.getD done.length .none = u := by rw [hi]; simp [List.getD]
        rw [← e1, ← e2]; exact a
    obtain ⟨r, hF⟩ := ok.tells x (List.mem_of_getElem? hx)
    refine wpAny_bind (wpAny_attempt ?_)
    refine key_run (N := N) Fo hb I1 A hr (hA _ _ I1.env0) (fun a ha z => nh a ha (sm.none z)) (dv.same sm) ru hF fun u' s2 v' H2 I2 sm2 dv2 rv2 => ?_
    obtain ⟨gk, hk⟩ := I2.pinGet (a := kS) (List.mem_append_right _ List.mem_cons_self)
    have I3 : Inv X (pins ++ [(da, lob [] e1)]) σ H2 s2 := I2.unpinned
    obtain ⟨n3, g3, I4⟩ := I3.rawset (f := fun x => x.push u') (its' := us ++ [u']) hk (fK.more ne) gk (by simp)
    refine wpAny_bind (listUpdate_at gk rfl ?_ (by simp; omega) (by simp; omega))
    refine wpAny_pure ?_
    refine ⟨done ++ [u], H2, us ++ [u'], kvs ++ [v'], n3, by rw [hi]; simp, by simp [hl], I4.pin1 hk (fK.more ne) g3 (lob_cell _ _), sm.trans sm2, rk.append (.cons rv2 .nil), ?_⟩
    have e : (ds.take (done ++ [u]).length).map (kfOf F) = (ds.take done.length).map (kfOf F) ++ [kfOf F x] := by
      rw [List.length_append, List.length_singleton, List.take_succ, hx]
      simp
    rw [e]
    exact (dk.same sm2).append (DenL.cons dv2 DenL.nil)
  · rintro b s1 ⟨done, H1, us, kvs, e2, hi, hl, I1, sm, rk, dk⟩
    rw [List.append_nil] at hi
    subst hi
    obtain ⟨gk, hk⟩ := I1.pinGet (a := kS) (List.mem_append_right _ List.mem_cons_self)
    obtain ⟨gd', hd⟩ := I1.pinGet (a := da) (List.mem_append_left _ (List.mem_append_right _ List.mem_cons_self))
    refine wpAny_bind (listItems_at gk rfl ?_)
    have ht : ds.take items.length = ds := List.take_of_length_le (by omega)
    rw [ht] at dk
    refine sort_run (N := N) I1 A hu ok dk rk (by omega) fun p st hp hs ha hf => ?_
    have hpl : p.length = ds.length := by have := hp.length_eq; simpa using this
    refine tail_run A I1 fD fK ne (by omega) ha hf (vals_pick rv p) (by rw [List.length_map]; omega) fun s' J => ?_
    refine q s' H1 _ J sm hd ?_
    rw [← hs]
    exact den_pick (dn.same sm) p fun j hj => by have := hp.subset hj; simpa using this
  · exact ⟨[], H, [], [], e0, by simp, rfl, I, Same.refl H, .nil, DenL.nil⟩
theorem tree_run (Fo : FnOk X.prog X.w X.K X.mg X.base CX0 k fn fd ps (spD X.K F)) (hb : Binds X.K fd ps []) (A : Around) (hr : Room k A) (hu : A.units + 40 < cLine) (hA : ∀ s H, Env0 X.prog X.w X.K X.mg X.base X.A X.stack s H → Env0 X.prog X.w X.K X.mg X.base A X.stack s H)
    (I : Inv X pins σ H s) (nh : ∀ a, N a → H a ≠ none) {da : Addr} {items : List Value} {n0 : Nat} {xs : List V} {ds : List D} (g : s.heap.get? da = some (lob items n0)) (hD : H da = none) (fD : Off X pins da) (rv : Vals xs items) (dn : DenL X.K N H ds xs) (ok : SortOk F ds)
    {E : Value → Shared → Prop} {P : PySem.Fin → Shared → Prop} (q : ∀ s' H' vs, Inv X pins σ (upd H' da (.lst vs)) s' → Same H H' → H' da = none → DenL X.K N H' (srtK (ltF F) ds) vs → P (.done (.ret .none)) s') :
    wpAny (model X.prog X.w) A (ksk_tree da (.ref fn) false) P E s := by
  have l1 := dn.length
  have l2 := rv.length
  have few := ok.few
  have hsl : sizeLine = 16777216 := sizeLine_eq
  unfold ksk_tree
  refine wpAny_bind (listItems_at g rfl ?_)
  obtain ⟨n1, g1, I1⟩ := I.rawset (f := fun _ => #[]) (its' := []) hD fD g rfl
  refine wpAny_bind (listUpdate_at g rfl ?_ (by simp; omega) (by simp))
  refine wpAny_bind (seqEpoch_at g1 rfl ?_)
  refine wpAny_bind (wpAny_newTuple ?_ (by simp; omega))
  generalize hs1 : ({ heap := s.heap.update da (Obj.mapSeq fun x => #[]), gens := s.gens, drawn := s.drawn, toks := s.toks, os := s.os } : Shared) = s1 at *
  have g1' : s1.heap.get? da = some (lob [] n1) := by rw [← hs1]; exact g1
  have I2 := I1.kept (t' := s1.toks) (fun b u e => Heap.get?_push_of_some { cls := .type "tuple", data := .seq items.toArray } e)
  have g2 := Heap.get?_push_of_some { cls := .type "tuple", data := .seq items.toArray } g1'
  generalize hs2 : ({ heap := s1.heap.push { cls := .type "tuple", data := .seq items.toArray }, gens := s1.gens, drawn := s1.drawn, toks := s1.toks, os := s1.os } : Shared) = s2 at *
  have g2' : s2.heap.get? da = some (lob [] n1) := by rw [← hs2]; exact g2
  refine wpAny_bind (wpAny_newList ?_ (by simp))
  have I3 := I2.kept (t' := s2.toks) (fun b u e => Heap.get?_push_of_some (lob [] 0) e)
  have g3 := Heap.get?_push_of_some (lob [] 0) g2'
  have gk := Heap.get?_push_size s2.heap (o := lob [] 0) rfl
  have fK := I2.off (Nat.le_refl s2.heap.objs.size)
  have hK : H s2.heap.objs.size = none := I2.fresh
  have ne : da ≠ s2.heap.objs.size := Nat.ne_of_lt (Heap.lt_size g2')
  refine wpAny_holding ?_
  exact rest_run (N := N) Fo hb A hr hu hA ((I3.pin1 hD fD g3 (lob_cell _ _)).pin1 hK (fK.more ne) gk (lob_cell _ _)) nh fD fK ne rv dn ok q
theorem sorted_run (Fo : FnOk X.prog X.w X.K X.mg X.base CX0 k fn fd ps (spD X.K F)) (hb : Binds X.K fd ps []) (hr : Room (k + 2) X.A)
    (I : Inv X pins σ H s) (nh : ∀ a, N a → H a ≠ none) {a : Addr} {xs : List V} {ds : List D} (hs : SqL X.K H a xs) (dn : DenL X.K N H ds xs) (ok : SortOk F ds) {Q : VK}
    (q : ∀ da vs H', Same H H' → H da = none → H' da = some (.lst vs) → DenL X.K (fun b => N b ∨ b = da) H' (srtK (ltF F) ds) vs → Q (.ref da) H') :
    wpAny (model X.prog X.w) X.A (call (.builtin "sorted") [.ref a] [("key", .ref fn)]) (EP X pins σ Q) X.xe s := by
  have l1 := dn.length
  have few := ok.few
  have hsl : sizeLine = 16777216 := sizeLine_eq
  obtain ⟨its, rv, ⟨o, n, ho, hc, hdd, hd⟩, hz⟩ := I.list hs
  have l2 := rv.length
  refine wpAny_call (codeAny_call_builtin plain_sorted entry_sorted ?_)
  have hck : checkBuiltinCall "sorted" ⟨[.ref a], [("key", .ref fn)]⟩ = pure () := by rfl
  rw [hck]
  refine wpAny_pure ?_
  unfold PySem.Builtin.sorted
  have hcc : checkCount "sorted" 1 1 1 = pure () := rfl
  show wpAny _ _ (do checkCount "sorted" 1 1 1; let y ← collect (.ref a); let l ← newList y; let _ ← holding [l] (call (.builtin "list.sort") [l] [("key", .ref fn)]); ret l) _ _ _
  rw [hcc]
  refine wpAny_bind (wpAny_pure ?_)
  refine wpAny_bind (wpAny_collect_seq a (T := "list") (.inl rfl) ho hc hd (fun h1 k1 => ?_) (by simp; omega))
  have I1 := I.kept (t' := s.toks) k1
  refine wpAny_bind (wpAny_newList ?_ (by simp; omega))
  generalize hs1 : ({ heap := h1, gens := s.gens, drawn := s.drawn, toks := s.toks, os := s.os } : Shared) = s1 at *
  have I2 := I1.kept (t' := s1.toks) (fun b u e => Heap.get?_push_of_some (lob its 0) e)
  have g := Heap.get?_push_size s1.heap (o := lob its 0) rfl
  have fD := I1.off (Nat.le_refl s1.heap.objs.size)
  have hD : H s1.heap.objs.size = none := I1.fresh
  refine wpAny_bind (wpAny_holding ?_)
  refine wpAny_call (codeAny_call_builtin PySem.F.slot_list_sort.plain PySem.F.entry_list_sort ?_)
  refine PySem.F.slot_list_sort.check _ _ _ _ _ _ _ _ ⟨_, g, rfl⟩ rfl ?_
  rw [ksk_t1]
  refine tree_run (N := N) Fo hb X.A.in1.in1 hr.in1.in1 ?_ (fun s H e => e.in1.in1) I2 nh g hD fD rv dn ok fun s' H' vs J sm hn dv => ?_
  · have := hr.un; show X.A.units + 1 + 1 + 40 < _; omega
  · refine wpAny_pure ?_
    refine ⟨.ref _, _, J, rfl, q _ vs _ (fun b u e => ?_) hD upd_same ?_⟩
    · rw [upd_ne (fun z => by rw [z, hD] at e; cases e)]; exact sm b u e
    · exact DenL.step (M := fun _ => False) ⟨fun b u e z => by
        rw [upd_ne (fun z => by rw [z, hn] at e; cases e)]; exact e, fun b hb => by
        rcases hb with hb | hb
        · exact .inl hb
        · subst hb; exact .inr hn⟩ _ _ dv
end
end L2
set_option Elab.async false
set_option linter.all false
set_option maxRecDepth 100000
namespace L2
open PySem PySem.Spec PyProof.Rows PySem.W
section
variable {X : Cx} {M : Fb} {H0 : Hp} {k : Nat} {fn : Addr} {fd : FuncData} {ps : List Str} {F : List Sl → Option Rv} {e : Expr} {f : VE → Option D} {x y : Str} {p p2 kpos pos : Pos}
noncomputable def sortKF (F : List Sl → Option Rv) (f : VE → Option D) : VE → Option (List D) := fun ρ => match f ρ with
  | some (.lst xs) => sortK F xs
  | _ => none
theorem vf_sortK (Fo : FnOk X.prog X.w X.K X.mg X.base CX0 k fn fd ps (spD X.K F)) (hr : Room (k + 2) X.A) (hg : Gl X x) (hm : X.mg x = none) (hv : bootBuiltins x = some (.builtin "sorted")) (hgf : Gl X y) (hmf : X.mg y = some (.ref fn)) (hb : Binds X.K fd ps []) (he : PE X e (tP X.K M H0 f))
    (hn : x ≠ "__name__" := by decide) (hdb : (x == ("__debug__" : Str)) = false := by decide) (hdb2 : (y == ("__debug__" : Str)) = false := by decide) (hs : starEach [e] X.env = (false, eval e X.env) :: starEach [] X.env := by exact star_c (fun _ _ z => nomatch z)) :
    PE X (.Call (.Name x p) [e] [⟨some "key", .Name y p2, kpos⟩] pos) (tF X.K M H0 (sortKF F f)) := by
  intro pins s σ H Q I h
  obtain ⟨ρ, ys, R, ev, q⟩ := h
  refine wpAny_Call_Name_kw (ld_blt I hg hm hv ?_ hn hdb)
  unfold sortKF at ev
  split at ev
  · next xs hf =>
    obtain ⟨ok, rfl⟩ := sortK_of ev
    have ha := (pa_cons he (pa_nil (X := X)) hs) pos pins s σ H (fun vs H1 => ∃ v, vs = [v] ∧ Same H H1 ∧ DenP X.K (Nf M ρ σ) H1 (.lst xs) v) I ⟨ρ, .lst xs, R, hf, fun v H1 s1 d1 => ⟨v, rfl, s1, d1⟩⟩
    have hkw := pk_cons (nm := some "key") (kpos := kpos) (pe_glob (v := .ref fn) (pos := p2) hgf hmf rfl hdb2) (pk_nil (X := X))
    rw [hs] at ha ⊢
    refine callWith_builtin_kwB rfl rfl ?_
    unfold evalArgs
    refine wpAny_bind (thn ha fun us s1 hh => ?_)
    obtain ⟨vs, H1, I1, r1, v, rfl, sm, d1⟩ := hh
    refine wpAny_bind (wpAny_pure ?_)
    refine wpAny_holding ?_
    refine wpAny_bind (thn (hkw pos pins s1 σ H1 (fun zs H2 => zs = [.ref fn] ∧ H2 = H1) I1 ⟨rfl, rfl⟩) fun ks s2 hh => ?_)
    obtain ⟨zs, H2, I2, r2, rfl, rfl⟩ := hh
    refine wpAny_bind (wpAny_pure ?_)
    refine wpAny_pure ?_
    obtain ⟨u, rfl, ru⟩ := vals1 r1
    obtain ⟨u2, rfl, ru2⟩ := vals1 r2
    cases ru2
    obtain ⟨a, ws, rfl, sq, dl⟩ := d1
    cases ru
    have R1 := R.st sm
    exact sorted_run (N := Nf M ρ σ) Fo hb hr I2 R1.nh sq dl ok fun da vs H' s' hn' hd' dv => q da vs H' (sm.trans s') (sm.none hn') hd' dv
  · cases ev
theorem j_vf_sortK (Fo : FnOk X.prog X.w X.K X.mg X.base CX0 k fn fd ps (spD X.K F)) (hr : Room (k + 2) X.A) (hg : Gl X x) (hm : X.mg x = none) (hv : bootBuiltins x = some (.builtin "sorted")) (hgf : Gl X y) (hmf : X.mg y = some (.ref fn)) (hb : Binds X.K fd ps []) (he : JE X e (tP X.K M H0 f))
    (hn : x ≠ "__name__" := by decide) (hdb : (x == ("__debug__" : Str)) = false := by decide) (hdb2 : (y == ("__debug__" : Str)) = false := by decide) (hs : starEach [e] X.env = (false, eval e X.env) :: starEach [] X.env := by exact star_c (fun _ _ z => nomatch z)) :
    JE X (.Call (.Name x p) [e] [⟨some "key", .Name y p2, kpos⟩] pos) (tF X.K M H0 (sortKF F f)) := ⟨vf_sortK Fo hr hg hm hv hgf hmf hb he.h hn hdb hdb2 hs⟩
end
end L2
set_option Elab.async false
set_option linter.all false
set_option maxRecDepth 100000
namespace L2
open PySem PySem.Spec PyProof.Rows
section
variable {X : Cx} {K : PySem.W.Frag} {M : Fb} {H0 : Hp} {pos : Pos} {tg elt iter : Expr} {ifs : List Expr} {scope : Scope} {ws : List Nat} {f : VE → Option (List D)} {b : D → VE → Option VE} {t : VE → Option Bool} {e : VE → Option D} {k : Nat} {oix : List Nat}
@[simp] theorem lstItems_lst (xs : List D) : lstItems (.lst xs) = some xs := rfl
end
end L2
set_option Elab.async false
set_option linter.all false
set_option maxRecDepth 100000
namespace L2
open PySem PySem.Spec PyProof.Rows
@[simp] theorem eqD_ii (a b : Int) : eqD (.int a) (.int b) = decide (a = b) := by simp only [eqD]; by_cases h : a = b <;> simp [h]
@[simp] theorem eqD_ss (a b : Str) : eqD (.str a) (.str b) = decide (a = b) := by simp only [eqD]; by_cases h : a = b <;> simp [h]
@[simp] theorem eqD_bb (a b : Bool) : eqD (.bl a) (.bl b) = decide (a = b) := by simp only [eqD]; by_cases h : a = b <;> simp [h]
@[simp] theorem eqD_nn : eqD .non .non = true := by simp only [eqD]
@[simp] theorem eqD_bi (a : Bool) (b : Int) : eqD (.bl a) (.int b) = decide ((if a then 1 else 0) = b) := by simp only [eqD]; by_cases h : (if a then 1 else 0) = b <;> simp [h]
@[simp] theorem eqD_ib (a : Int) (b : Bool) : eqD (.int a) (.bl b) = decide (a = (if b then 1 else 0)) := by simp only [eqD]; by_cases h : a = (if b then 1 else 0) <;> simp [h]
@[simp] theorem eqD_is (a : Int) (b : Str) : eqD (.int a) (.str b) = false := by simp only [eqD]
@[simp] theorem eqD_si (a : Str) (b : Int) : eqD (.str a) (.int b) = false := by simp only [eqD]
@[simp] theorem eqD_bs (a : Bool) (b : Str) : eqD (.bl a) (.str b) = false := by simp only [eqD]
@[simp] theorem eqD_sb (a : Str) (b : Bool) : eqD (.str a) (.bl b) = false := by simp only [eqD]
@[simp] theorem eqD_ni (b : Int) : eqD .non (.int b) = false := by simp only [eqD]
@[simp] theorem eqD_ns (b : Str) : eqD .non (.str b) = false := by simp only [eqD]
@[simp] theorem eqD_nb (b : Bool) : eqD .non (.bl b) = false := by simp only [eqD]
@[simp] theorem eqD_in (b : Int) : eqD (.int b) .non = false := by simp only [eqD]
@[simp] theorem eqD_sn (b : Str) : eqD (.str b) .non = false := by simp only [eqD]
@[simp] theorem eqD_bn (b : Bool) : eqD (.bl b) .non = false := by simp only [eqD]
@[simp] theorem eqD_tt (a b : List D) : eqD (.tup a) (.tup b) = eqDs a b := by simp only [eqD]
@[simp] theorem eqD_ll (a b : List D) : eqD (.lst a) (.lst b) = eqDs a b := by simp only [eqD]
@[simp] theorem eqD_tl (a b : List D) : eqD (.tup a) (.lst b) = false := by simp only [eqD]
@[simp] theorem eqD_lt (a b : List D) : eqD (.lst a) (.tup b) = false := by simp only [eqD]
@[simp] theorem eqD_ti (a : List D) (b : Int) : eqD (.tup a) (.int b) = false := by simp only [eqD]
@[simp] theorem eqD_ts (a : List D) (b : Str) : eqD (.tup a) (.str b) = false := by simp only [eqD]
@[simp] theorem eqD_tn (a : List D) : eqD (.tup a) .non = false := by simp only [eqD]
@[simp] theorem eqD_tb (a : List D) (b : Bool) : eqD (.tup a) (.bl b) = false := by simp only [eqD]
@[simp] theorem eqD_it (a : List D) (b : Int) : eqD (.int b) (.tup a) = false := by simp only [eqD]
@[simp] theorem eqD_st (a : List D) (b : Str) : eqD (.str b) (.tup a) = false := by simp only [eqD]
@[simp] theorem eqD_nt (a : List D) : eqD .non (.tup a) = false := by simp only [eqD]
@[simp] theorem eqD_bt (a : List D) (b : Bool) : eqD (.bl b) (.tup a) = false := by simp only [eqD]
@[simp] theorem eqD_li (a : List D) (b : Int) : eqD (.lst a) (.int b) = false := by simp only [eqD]
@[simp] theorem eqD_ls (a : List D) (b : Str) : eqD (.lst a) (.str b) = false := by simp only [eqD]
@[simp] theorem eqD_ln (a : List D) : eqD (.lst a) .non = false := by simp only [eqD]
@[simp] theorem eqD_lb (a : List D) (b : Bool) : eqD (.lst a) (.bl b) = false := by simp only [eqD]
@[simp] theorem eqD_il (a : List D) (b : Int) : eqD (.int b) (.lst a) = false := by simp only [eqD]
@[simp] theorem eqD_sl (a : List D) (b : Str) : eqD (.str b) (.lst a) = false := by simp only [eqD]
@[simp] theorem eqD_nl (a : List D) : eqD .non (.lst a) = false := by simp only [eqD]
@[simp] theorem eqD_bl' (a : List D) (b : Bool) : eqD (.bl b) (.lst a) = false := by simp only [eqD]
@[simp] theorem eqDs_nil : eqDs [] [] = true := by simp only [eqDs]
@[simp] theorem eqDs_cons (a b : D) (as bs : List D) : eqDs (a :: as) (b :: bs) = (eqD a b && eqDs as bs) := by simp only [eqDs]
@[simp] theorem eqDs_nc (b : D) (bs : List D) : eqDs [] (b :: bs) = false := by simp only [eqDs]
@[simp] theorem eqDs_cn (b : D) (bs : List D) : eqDs (b :: bs) [] = false := by simp only [eqDs]
@[simp] theorem eqDs_ints : ∀ (a b : List Int), eqDs (a.map D.int) (b.map D.int) = decide (a = b)
  | [], [] => by simp
  | [], _ :: _ => by simp
  | _ :: _, [] => by simp
  | x :: a, y :: b => by simp [eqDs_ints a b]
@[simp] theorem okD_ints (n : Nat) (a : List Int) : (a.map D.int).all (okD n) = true := by
  rw [List.all_eq_true]
  intro x hx
  obtain ⟨i, _, rfl⟩ := List.mem_map.mp hx
  cases n <;> rfl
@[simp] theorem tyLe_eq (t n : String) : tyLe t n = (t == n || (t == "bool" && n == "int")) := rfl
@[simp] theorem tyNames_eq : tyNames = ["NoneType", "bool", "int", "str", "tuple", "list"] := rfl
@[simp] theorem deep_eq : deep = 12 := rfl
@[simp] theorem tysL_nil : tysOf.tysL [] = some [] := rfl
@[simp] theorem tysL_cons (n : String) (r : List D) : tysOf.tysL (.ty n :: r) = (tysOf.tysL r).map (n :: ·) := rfl
@[simp] theorem asIs_eq (ns : List Int) : asIs (ns.map D.int) = some ns := asIs_ints ns
@[simp] theorem asBs_eq : ∀ (ns : List Bool), asBs (ns.map D.bl) = some ns
  | [] => rfl
  | n :: ns => by simp only [List.map_cons, asBs, asBs_eq ns]; rfl
theorem compL_map {α : Type} {b : D → VE → Option VE} {e : VE → Option D} {ρ : VE} (G F : α → D) : ∀ (xs : List α), (∀ x ∈ xs, ∃ ρ1, b (G x) ρ = some ρ1 ∧ e ρ1 = some (F x)) → compL b (fun _ => some true) e ρ (xs.map G) = some (xs.map F)
  | [], _ => rfl
  | x :: xs, h => by
    obtain ⟨ρ1, h1, h2⟩ := h x List.mem_cons_self
    simp only [List.map_cons, compL, h1, h2, consO, Option.bind, compL_map G F xs fun y hy => h y (List.mem_cons_of_mem _ hy)]
@[simp] theorem short_le {α : Type} (l : List α) (h : l.length ≤ 1000000) : shortO (some l) = some l := by
  have : l.length ≤ sizeLine := Nat.le_trans h (by decide)
  simp [this]
theorem cutD_map {α β : Type} (f : α → β) (xs : List α) (lo hi : Option Int) : cutD (xs.map f) lo hi = (cutD xs lo hi).map f := by
  unfold cutD
  rw [List.length_map, List.map_take, List.map_drop]
theorem cut_to {α : Type} (xs : List α) (k : Int) (h : 0 ≤ k) : cutD xs none (some k) = xs.take k.toNat := by
  have e : HT.sIx xs.length 0 none = 0 := rfl
  have e2 : HT.sIx xs.length xs.length (some k) = min k.toNat xs.length := by simp only [HT.sIx]; split <;> omega
  unfold cutD
  rw [e, e2, List.drop_zero, Nat.sub_zero]
  rcases Nat.le_total k.toNat xs.length with h1 | h1
  · rw [Nat.min_eq_left h1]
  · rw [Nat.min_eq_right h1, List.take_length, List.take_of_length_le h1]
theorem cut_from {α : Type} (xs : List α) (k : Int) (h : 0 ≤ k) : cutD xs (some k) none = xs.drop k.toNat := by
  have e : HT.sIx xs.length xs.length none = xs.length := rfl
  have e2 : HT.sIx xs.length 0 (some k) = min k.toNat xs.length := by simp only [HT.sIx]; split <;> omega
  unfold cutD
  rw [e, e2]
  rcases Nat.le_total k.toNat xs.length with h1 | h1
  · rw [Nat.min_eq_left h1, List.take_of_length_le (by rw [List.length_drop]; exact Nat.le_refl _)]
  · rw [Nat.min_eq_right h1, List.drop_length, List.drop_of_length_le h1, List.take_nil]
theorem cut_mid {α : Type} (xs : List α) (i j : Int) (hi : 0 ≤ i) (hj : 0 ≤ j) : cutD xs (some i) (some j) = (xs.drop i.toNat).take (j.toNat - i.toNat) := by
  have e1 : HT.sIx xs.length 0 (some i) = min i.toNat xs.length := by simp only [HT.sIx]; split <;> omega
  have e2 : HT.sIx xs.length xs.length (some j) = min j.toNat xs.length := by simp only [HT.sIx]; split <;> omega
  unfold cutD
  rw [e1, e2]
  rcases Nat.le_total i.toNat xs.length with h1 | h1
  · rw [Nat.min_eq_left h1]
    rcases Nat.le_total j.toNat xs.length with h2 | h2
    · rw [Nat.min_eq_left h2]
    · rw [Nat.min_eq_right h2, List.take_of_length_le (by rw [List.length_drop]; exact Nat.le_refl _), List.take_of_length_le (by rw [List.length_drop]; omega)]
  · rw [Nat.min_eq_right h1, List.drop_length, List.drop_of_length_le h1, List.take_nil, List.take_nil]
@[simp] theorem sortD_eq (ns : List Int) : sortD [.lst (ns.map D.int)] = if ns.length < 64 then some ((isrt ns).map D.int) else none := by simp [sortD]
theorem rng1_int (j : Int) (h0 : 0 ≤ j) (h : j < 1000000000) : rng1 [.int j] = some ((List.range j.toNat).map fun (k : Nat) => D.int (k : Int)) := by
  have e : rngItems 0 j.toNat = (List.range j.toNat).map fun (k : Nat) => D.int (k : Int) := by simp [rngItems]
  simp only [rng1]
  rw [gd_pos ⟨by omega, by omega⟩, e]
theorem rng1_nat (n : Nat) (h : n < 1000000000) : rng1 [.int (n : Int)] = some ((List.range n).map fun (k : Nat) => D.int (k : Int)) := by
  rw [rng1_int _ (by omega) (by omega), Int.toNat_natCast]
theorem addD_lst (xs ys : List D) (h : xs.length + ys.length ≤ 1000000) : addD (.lst xs) (.lst ys) = some (.lst (xs ++ ys)) := by
  simp only [addD]
  rw [if_pos (Nat.le_trans h (by decide))]
theorem addD_tup (xs ys : List D) (h : xs.length + ys.length ≤ 1000000) : addD (.tup xs) (.tup ys) = some (.tup (xs ++ ys)) := by
  simp only [addD]
  rw [if_pos (Nat.le_trans h (by decide))]
theorem ixN_ok {n : Nat} {i : Int} (h0 : 0 ≤ i) (h1 : i < n) : ixN n i = some i.toNat := by unfold ixN; rw [if_pos h0, if_pos h1]
theorem atI_ok {α : Type} {xs : List α} {i : Int} (h0 : 0 ≤ i) (h1 : i < xs.length) : ∃ x, atI xs i = some x ∧ x ∈ xs := by
  have h : i.toNat < xs.length := by omega
  refine ⟨xs[i.toNat], ?_, List.getElem_mem _⟩
  unfold atI
  rw [ixN_ok h0 h1]
  exact List.getElem?_eq_getElem h
theorem ixD_str {z : Str} {i : Int} (hz : z.length ≤ 1000000) (h0 : 0 ≤ i) (h1 : i < z.length) : ∃ c, ixD (.str z) (.int i) = some (.str ⟨#[c]⟩) ∧ c ∈ z.cps.toList := by
  have hl : z.cps.toList.length = z.length := by simp [Str.length]
  obtain ⟨c, e, hc⟩ := atI_ok (xs := z.cps.toList) h0 (by rw [hl]; exact h1)
  refine ⟨c, ?_, hc⟩
  simp only [ixD]
  rw [if_pos (Nat.le_trans hz (by decide)), e]
  rfl
@[simp] theorem rvD_v (d : D) : rvD (.val d) = d := rfl
@[simp] theorem rvD_o (xs : List D) (b : Bool) : rvD (.own xs b) = .lst xs b := rfl
end L2
set_option Elab.async false
set_option linter.all false
set_option maxRecDepth 100000
set_option maxHeartbeats 4000000
namespace K03
open PySem PySem.Spec PyProof.Rows L2
noncomputable def g_is_whole : VE → Res := (fun ρ => seqR ((fun ρ => retO ((fun ρ => blO (andO (asB ((bltO isD (fun ρ => consO (rdA ρ 0) ((fun ρ => consO (valO ((fun _ => some (.ty "int")) ρ)) ((fun _ => some []) ρ)) ρ))) ρ)) (asB ((fun ρ => blO (notO (asB ((bltO isD (fun ρ => consO (rdA ρ 0) ((fun ρ => consO (valO ((fun _ => some (.ty "bool")) ρ)) ((fun _ => some []) ρ)) ρ))) ρ)))) ρ)))) ρ)) ρ) (fun ρ => .next ρ))
noncomputable def F_is_whole : List Sl → Option Rv := fnP 1 1 g_is_whole
noncomputable def g_law_cell_at : VE → Res := (fun ρ => seqR ((fun ρ => iteR ((fun ρ => asB ((bin2 ltO (fun ρ => rdP ρ 1) (bltO lenD (fun ρ => consO (rdA ρ 0) ((fun _ => some []) ρ)))) ρ)) ρ) ((fun ρ => seqR ((fun ρ => retO ((bin2 ixD (fun ρ => rdP ρ 0) (fun ρ => rdP ρ 1)) ρ)) ρ) (fun ρ => .next ρ)) ρ) ((fun ρ => .next ρ) ρ)) ρ) (fun ρ => seqR ((fun ρ => retO ((fun _ => some (.int (0))) ρ)) ρ) (fun ρ => .next ρ)))
noncomputable def F_law_cell_at : List Sl → Option Rv := fnP 2 2 g_law_cell_at
noncomputable def L_law_value_ahead_0 : VE → Res := (fun ρ => seqR ((fun ρ => iteR ((fun ρ => asB ((bin2 neO (fun ρ => rdP ρ 3) (fun ρ => rdP ρ 4)) ρ)) ρ) ((fun ρ => seqR ((fun ρ => retO ((bin2 ltO (mtO findD (fun ρ => rdP ρ 2) (fun ρ => consO (rdA ρ 3) ((fun _ => some []) ρ))) (mtO findD (fun ρ => rdP ρ 2) (fun ρ => consO (rdA ρ 4) ((fun _ => some []) ρ)))) ρ)) ρ) (fun ρ => .next ρ)) ρ) ((fun ρ => .next ρ) ρ)) ρ) (fun ρ => .next ρ))
noncomputable def P_law_value_ahead_0 : VE → Res := (fun ρ => iteR ((fun ρ => orB ((fun ρ => isNO ((fun ρ => rdP ρ 0) ρ)) ρ) ((fun ρ => isNO ((fun ρ => rdP ρ 1) ρ)) ρ)) ρ) ((fun ρ => seqR ((fun ρ => retO ((fun ρ => blO (andO (asB ((fun ρ => blO (isNO ((fun ρ => rdP ρ 0) ρ))) ρ)) (asB ((fun ρ => blO (notO (isNO ((fun ρ => rdP ρ 1) ρ)))) ρ)))) ρ)) ρ) (fun ρ => .next ρ)) ρ) ((fun ρ => .next ρ) ρ))
noncomputable def P_law_value_ahead_1 : VE → Res := (fun ρ => iteR ((fun ρ => asB ((bin2 neO (bltO isD (fun ρ => consO (rdA ρ 0) ((fun ρ => consO (valO ((fun _ => some (.ty "str")) ρ)) ((fun _ => some []) ρ)) ρ))) (bltO isD (fun ρ => consO (rdA ρ 1) ((fun ρ => consO (valO ((fun _ => some (.ty "str")) ρ)) ((fun _ => some []) ρ)) ρ)))) ρ)) ρ) ((fun ρ => seqR ((fun ρ => retO ((bltO isD (fun ρ => consO (rdA ρ 1) ((fun ρ => consO (valO ((fun _ => some (.ty "str")) ρ)) ((fun _ => some []) ρ)) ρ))) ρ)) ρ) (fun ρ => .next ρ)) ρ) ((fun ρ => .next ρ) ρ))
noncomputable def P_law_value_ahead_2 : VE → Res := (fun ρ => iteR ((fun ρ => truD ((bltO isD (fun ρ => consO (rdA ρ 0) ((fun ρ => consO (valO ((fun _ => some (.ty "int")) ρ)) ((fun _ => some []) ρ)) ρ))) ρ)) ρ) ((fun ρ => seqR ((fun ρ => retO ((bin2 ltO (fun ρ => rdP ρ 0) (fun ρ => rdP ρ 1)) ρ)) ρ) (fun ρ => .next ρ)) ρ) ((fun ρ => .next ρ) ρ))
noncomputable def P_law_value_ahead_3 : VE → Res := (fun ρ => setR 2 ((fun _ => some (.str "0123456789abcdefghijklmnopqrstuvwxyz")) ρ) ρ)
noncomputable def P_law_value_ahead_4 : VE → Res := (forO (zipO (fun ρ => rdQ ρ 0) (fun ρ => rdQ ρ 1)) (bTup 2 (bCons (bName 3) (bCons (bName 4) bNil))) L_law_value_ahead_0)
noncomputable def P_law_value_ahead_5 : VE → Res := (fun ρ => retO ((bin2 ltO (bltO lenD (fun ρ => consO (rdA ρ 0) ((fun _ => some []) ρ))) (bltO lenD (fun ρ => consO (rdA ρ 1) ((fun _ => some []) ρ)))) ρ))
noncomputable def S_law_value_ahead_6 : VE → Res := fun ρ => .next ρ
noncomputable def S_law_value_ahead_5 : VE → Res := fun ρ => seqR (P_law_value_ahead_5 ρ) S_law_value_ahead_6
noncomputable def S_law_value_ahead_4 : VE → Res := fun ρ => seqR (P_law_value_ahead_4 ρ) S_law_value_ahead_5
noncomputable def S_law_value_ahead_3 : VE → Res := fun ρ => seqR (P_law_value_ahead_3 ρ) S_law_value_ahead_4
noncomputable def S_law_value_ahead_2 : VE → Res := fun ρ => seqR (P_law_value_ahead_2 ρ) S_law_value_ahead_3
noncomputable def S_law_value_ahead_1 : VE → Res := fun ρ => seqR (P_law_value_ahead_1 ρ) S_law_value_ahead_2
noncomputable def S_law_value_ahead_0 : VE → Res := fun ρ => seqR (P_law_value_ahead_0 ρ) S_law_value_ahead_1
noncomputable def g_law_value_ahead : VE → Res := S_law_value_ahead_0
noncomputable def F_law_value_ahead : List Sl → Option Rv := fnP 2 5 g_law_value_ahead
noncomputable def C_law_is_key_0 : VE → Option D := (fun ρ => blO (orB (asB ((fun ρ => blO (isNO ((fun ρ => rdP ρ 0) ρ))) ρ)) (asB ((fun ρ => blO (andO (asB ((bltO isD (fun ρ => consO (rdA ρ 0) ((fun ρ => consO (valO ((fun ρ => (shortO (((fun ρ => consO (valO ((fun _ => some (.ty "int")) ρ)) ((fun ρ => consO (valO ((fun _ => some (.ty "str")) ρ)) ((fun _ => some []) ρ)) ρ)) ρ).bind vals)).map D.tup) ρ)) ((fun _ => some []) ρ)) ρ))) ρ)) (asB ((fun ρ => blO (notO (asB ((bltO isD (fun ρ => consO (rdA ρ 0) ((fun ρ => consO (valO ((fun _ => some (.ty "bool")) ρ)) ((fun _ => some []) ρ)) ρ))) ρ)))) ρ)))) ρ))))
noncomputable def g_law_is_key : VE → Res := (fun ρ => seqR ((fun ρ => iteR ((fun ρ => notO ((fun ρ => truD ((bltO isD (fun ρ => consO (rdA ρ 0) ((fun ρ => consO (valO ((fun _ => some (.ty "tuple")) ρ)) ((fun _ => some []) ρ)) ρ))) ρ)) ρ)) ρ) ((fun ρ => seqR ((fun ρ => retO ((fun _ => some (.bl false)) ρ)) ρ) (fun ρ => .next ρ)) ρ) ((fun ρ => .next ρ) ρ)) ρ) (fun ρ => seqR ((fun ρ => retO ((bltO allD (fun ρ => consO (valO ((fun ρ => lstO ((compF 1 [] (fun ρ => ((fun ρ => rdQ ρ 0) ρ).bind seqItems) (bName 0) (fun _ => some true) C_law_is_key_0) ρ)) ρ)) ((fun _ => some []) ρ))) ρ)) ρ) (fun ρ => .next ρ)))
noncomputable def F_law_is_key : List Sl → Option Rv := fnP 1 1 g_law_is_key
noncomputable def g_value_rank : VE → Res := (fun ρ => seqR ((fun ρ => iteR ((fun ρ => isNO ((fun ρ => rdP ρ 0) ρ)) ρ) ((fun ρ => seqR ((fun ρ => retO ((fun ρ => (shortO (((fun ρ => consO (valO ((fun _ => some (.int (0))) ρ)) ((fun ρ => consO (valO ((fun _ => some (.int (0))) ρ)) ((fun _ => some []) ρ)) ρ)) ρ).bind vals)).map D.tup) ρ)) ρ) (fun ρ => .next ρ)) ρ) ((fun ρ => .next ρ) ρ)) ρ) (fun ρ => seqR ((fun ρ => iteR ((fun ρ => truD ((callO F_is_whole (fun ρ => consO (rdA ρ 0) ((fun _ => some []) ρ))) ρ)) ρ) ((fun ρ => seqR ((fun ρ => retO ((fun ρ => (shortO (((fun ρ => consO (valO ((fun _ => some (.int (1))) ρ)) ((fun ρ => consO (valO ((fun ρ => rdV ρ 0) ρ)) ((fun _ => some []) ρ)) ρ)) ρ).bind vals)).map D.tup) ρ)) ρ) (fun ρ => .next ρ)) ρ) ((fun ρ => .next ρ) ρ)) ρ) (fun ρ => seqR ((fun ρ => retO ((fun ρ => (shortO (((fun ρ => consO (valO ((fun _ => some (.int (2))) ρ)) ((fun ρ => consO (valO ((fun ρ => rdV ρ 0) ρ)) ((fun _ => some []) ρ)) ρ)) ρ).bind vals)).map D.tup) ρ)) ρ) (fun ρ => .next ρ))))
noncomputable def F_value_rank : List Sl → Option Rv := fnP 1 1 g_value_rank
noncomputable def C_law_thing_0 : VE → Option D := (bin2 ixD (fun ρ => rdP ρ 1) (bin2 modD (bin2 addD (bin2 fdivD (fun ρ => rdP ρ 2) (bin2 addD (fun ρ => rdP ρ 0) (fun _ => some (.int (1))))) (bin2 mulD (fun _ => some (.int (2))) (fun ρ => rdP ρ 0))) (fun _ => some (.int (26)))))
noncomputable def P_law_thing_0 : VE → Res := (fun ρ => iteR ((fun ρ => asB ((bin2 eqO (bin2 modD (fun ρ => rdP ρ 1) (fun _ => some (.int (7)))) (fun _ => some (.int (0)))) ρ)) ρ) ((fun ρ => seqR ((fun ρ => retO ((fun _ => some .non) ρ)) ρ) (fun ρ => .next ρ)) ρ) ((fun ρ => .next ρ) ρ))
noncomputable def P_law_thing_1 : VE → Res := (fun ρ => setR 2 ((bin2 modD (callO F_law_cell_at (fun ρ => consO (rdA ρ 0) ((fun ρ => consO (valO ((fun _ => some (.int (1))) ρ)) ((fun _ => some []) ρ)) ρ))) (bin2 powD (fun _ => some (.int (10))) (fun _ => some (.int (30))))) ρ) ρ)
noncomputable def P_law_thing_2 : VE → Res := (fun ρ => iteR ((fun ρ => asB ((bin2 ltO (bin2 modD (fun ρ => rdP ρ 1) (fun _ => some (.int (7)))) (fun _ => some (.int (4)))) ρ)) ρ) ((fun ρ => seqR ((fun ρ => retO ((bin2 addD (bin2 ixD (fun ρ => lstO ((fun ρ => shortO (((fun ρ => consO (valO ((fun ρ => rdV ρ 2) ρ)) ((fun ρ => consO (valO ((bin2 subD (fun _ => some (.int (0))) (fun ρ => rdP ρ 2)) ρ)) ((fun _ => some []) ρ)) ρ)) ρ).bind vals)) ρ)) (bin2 modD (bin2 fdivD (fun ρ => rdP ρ 1) (fun _ => some (.int (7)))) (fun _ => some (.int (2))))) (bin2 modD (bin2 fdivD (fun ρ => rdP ρ 1) (fun _ => some (.int (14)))) (fun _ => some (.int (3))))) ρ)) ρ) (fun ρ => .next ρ)) ρ) ((fun ρ => .next ρ) ρ))
noncomputable def P_law_thing_3 : VE → Res := (fun ρ => setR 3 ((fun _ => some (.str "abcdefghijklmnopqrstuvwxyz0123456789")) ρ) ρ)
noncomputable def P_law_thing_4 : VE → Res := (fun ρ => setR 4 ((callO F_law_cell_at (fun ρ => consO (rdA ρ 0) ((fun ρ => consO (valO ((fun _ => some (.int (2))) ρ)) ((fun _ => some []) ρ)) ρ))) ρ) ρ)
noncomputable def P_law_thing_5 : VE → Res := (fun ρ => setRF 5 ((compF 1 [3, 4] (fun ρ => (((fun ρ => consO (valO ((bin2 addD (fun _ => some (.int (1))) (bin2 modD (fun ρ => rdP ρ 4) (fun _ => some (.int (11))))) ρ)) ((fun _ => some []) ρ)) ρ).bind vals).bind rng1) (bName 0) (fun _ => some true) C_law_thing_0) ρ) ρ)
noncomputable def P_law_thing_6 : VE → Res := (fun ρ => setR 6 ((bin2 modD (callO F_law_cell_at (fun ρ => consO (rdA ρ 0) ((fun ρ => consO (valO ((fun _ => some (.int (3))) ρ)) ((fun _ => some []) ρ)) ρ))) (bltO lenD (fun ρ => consO (rdA ρ 5) ((fun _ => some []) ρ)))) ρ) ρ)
noncomputable def P_law_thing_7 : VE → Res := (fun ρ => iteR ((fun ρ => asB ((bin2 ltO (bin2 modD (fun ρ => rdP ρ 1) (fun _ => some (.int (7)))) (fun _ => some (.int (6)))) ρ)) ρ) ((fun ρ => seqR ((fun ρ => putR 5 ((fun ρ => rdP ρ 6) ρ) ((bin2 ixD (fun ρ => rdP ρ 3) (bin2 modD (bin2 addD (fun ρ => rdP ρ 4) (bin2 modD (bin2 fdivD (fun ρ => rdP ρ 1) (fun _ => some (.int (7)))) (fun _ => some (.int (5))))) (fun _ => some (.int (26))))) ρ) ρ) ρ) (fun ρ => .next ρ)) ρ) ((fun ρ => seqR ((fun ρ => appR 5 ((bin2 ixD (fun ρ => rdP ρ 3) (bin2 modD (bin2 fdivD (fun ρ => rdP ρ 1) (fun _ => some (.int (7)))) (fun _ => some (.int (36))))) ρ) ρ) ρ) (fun ρ => .next ρ)) ρ))
noncomputable def P_law_thing_8 : VE → Res := (fun ρ => retO ((mtO joinD (fun _ => some (.str "")) (fun ρ => consO (rdA ρ 5) ((fun _ => some []) ρ))) ρ))
noncomputable def S_law_thing_9 : VE → Res := fun ρ => .next ρ
noncomputable def S_law_thing_8 : VE → Res := fun ρ => seqR (P_law_thing_8 ρ) S_law_thing_9
noncomputable def S_law_thing_7 : VE → Res := fun ρ => seqR (P_law_thing_7 ρ) S_law_thing_8
noncomputable def S_law_thing_6 : VE → Res := fun ρ => seqR (P_law_thing_6 ρ) S_law_thing_7
noncomputable def S_law_thing_5 : VE → Res := fun ρ => seqR (P_law_thing_5 ρ) S_law_thing_6
noncomputable def S_law_thing_4 : VE → Res := fun ρ => seqR (P_law_thing_4 ρ) S_law_thing_5
noncomputable def S_law_thing_3 : VE → Res := fun ρ => seqR (P_law_thing_3 ρ) S_law_thing_4
noncomputable def S_law_thing_2 : VE → Res := fun ρ => seqR (P_law_thing_2 ρ) S_law_thing_3
noncomputable def S_law_thing_1 : VE → Res := fun ρ => seqR (P_law_thing_1 ρ) S_law_thing_2
noncomputable def S_law_thing_0 : VE → Res := fun ρ => seqR (P_law_thing_0 ρ) S_law_thing_1
noncomputable def g_law_thing : VE → Res := S_law_thing_0
noncomputable def F_law_thing : List Sl → Option Rv := fnP 2 7 g_law_thing
noncomputable def L_law_ahead_0 : VE → Res := (fun ρ => seqR ((fun ρ => iteR ((fun ρ => asB ((bin2 neO (fun ρ => rdP ρ 2) (fun ρ => rdP ρ 3)) ρ)) ρ) ((fun ρ => seqR ((fun ρ => retO ((callO F_law_value_ahead (fun ρ => consO (rdA ρ 2) ((fun ρ => consO (rdA ρ 3) ((fun _ => some []) ρ)) ρ))) ρ)) ρ) (fun ρ => .next ρ)) ρ) ((fun ρ => .next ρ) ρ)) ρ) (fun ρ => .next ρ))
noncomputable def g_law_ahead : VE → Res := (fun ρ => seqR ((forO (zipO (fun ρ => rdQ ρ 0) (fun ρ => rdQ ρ 1)) (bTup 2 (bCons (bName 2) (bCons (bName 3) bNil))) L_law_ahead_0) ρ) (fun ρ => seqR ((fun ρ => retO ((bin2 ltO (bltO lenD (fun ρ => consO (rdA ρ 0) ((fun _ => some []) ρ))) (bltO lenD (fun ρ => consO (rdA ρ 1) ((fun _ => some []) ρ)))) ρ)) ρ) (fun ρ => .next ρ)))
noncomputable def F_law_ahead : List Sl → Option Rv := fnP 2 4 g_law_ahead
noncomputable def C_key_rank_0 : VE → Option D := (callO F_value_rank (fun ρ => consO (rdA ρ 0) ((fun _ => some []) ρ)))
noncomputable def g_key_rank : VE → Res := (fun ρ => seqR ((fun ρ => retO ((bltO tupD (fun ρ => consO (valO ((fun ρ => lstO ((compF 1 [] (fun ρ => ((fun ρ => rdQ ρ 0) ρ).bind seqItems) (bName 0) (fun _ => some true) C_key_rank_0) ρ)) ρ)) ((fun _ => some []) ρ))) ρ)) ρ) (fun ρ => .next ρ))
noncomputable def F_key_rank : List Sl → Option Rv := fnP 1 1 g_key_rank
noncomputable def C_law_key_0 : VE → Option D := (callO F_law_thing (fun ρ => consO (rdA ρ 1) ((fun ρ => consO (valO ((bin2 fdivD (fun ρ => rdP ρ 2) (bin2 ixD (fun ρ => lstO ((fun ρ => shortO (((fun ρ => consO (valO ((fun _ => some (.int (3))) ρ)) ((fun ρ => consO (valO ((fun _ => some (.int (71))) ρ)) ((fun ρ => consO (valO ((fun _ => some (.int (1009))) ρ)) ((fun ρ => consO (valO ((fun _ => some (.int (15013))) ρ)) ((fun _ => some []) ρ)) ρ)) ρ)) ρ)) ρ).bind vals)) ρ)) (fun ρ => rdP ρ 0))) ρ)) ((fun _ => some []) ρ)) ρ)))
noncomputable def g_law_key : VE → Res := (fun ρ => seqR ((fun ρ => setR 2 ((bin2 modD (bin2 mulD (bin2 modD (fun ρ => rdP ρ 1) (fun _ => some (.int (2147483629)))) (fun _ => some (.int (16807)))) (fun _ => some (.int (2147483647)))) ρ) ρ) ρ) (fun ρ => seqR ((fun ρ => retO ((bltO tupD (fun ρ => consO (valO ((fun ρ => lstO ((compF 1 [0, 2] (fun ρ => (((fun ρ => consO (valO ((bin2 ixD (fun ρ => lstO ((fun ρ => shortO (((fun ρ => consO (valO ((fun _ => some (.int (2))) ρ)) ((fun ρ => consO (valO ((fun _ => some (.int (1))) ρ)) ((fun ρ => consO (valO ((fun _ => some (.int (3))) ρ)) ((fun ρ => consO (valO ((fun _ => some (.int (2))) ρ)) ((fun ρ => consO (valO ((fun _ => some (.int (4))) ρ)) ((fun ρ => consO (valO ((fun _ => some (.int (0))) ρ)) ((fun _ => some []) ρ)) ρ)) ρ)) ρ)) ρ)) ρ)) ρ).bind vals)) ρ)) (bin2 modD (fun ρ => rdP ρ 2) (fun _ => some (.int (6))))) ρ)) ((fun _ => some []) ρ)) ρ).bind vals).bind rng1) (bName 0) (fun _ => some true) C_law_key_0) ρ)) ρ)) ((fun _ => some []) ρ))) ρ)) ρ) (fun ρ => .next ρ)))
noncomputable def F_law_key : List Sl → Option Rv := fnP 2 3 g_law_key
noncomputable def L_law_good_0 : VE → Res := (fun ρ => seqR ((fun ρ => iteR ((fun ρ => orB ((fun ρ => notO ((fun ρ => truD ((callO F_law_is_key (fun ρ => consO (valO ((bin2 ixD (fun ρ => rdP ρ 0) (fun ρ => rdP ρ 2)) ρ)) ((fun _ => some []) ρ))) ρ)) ρ)) ρ) ((fun ρ => asB ((bin2 (inD true) (bin2 ixD (fun ρ => rdP ρ 0) (fun ρ => rdP ρ 2)) (fun ρ => rdP ρ 1)) ρ)) ρ)) ρ) ((fun ρ => seqR ((fun ρ => retO ((fun _ => some (.bl false)) ρ)) ρ) (fun ρ => .next ρ)) ρ) ((fun ρ => .next ρ) ρ)) ρ) (fun ρ => seqR ((fun ρ => iteR ((fun ρ => andO ((fun ρ => asB ((bin2 gtD (fun ρ => rdP ρ 2) (fun _ => some (.int (0)))) ρ)) ρ) ((fun ρ => notO ((fun ρ => truD ((callO F_law_ahead (fun ρ => consO (valO ((bin2 ixD (fun ρ => rdP ρ 0) (bin2 subD (fun ρ => rdP ρ 2) (fun _ => some (.int (1))))) ρ)) ((fun ρ => consO (valO ((bin2 ixD (fun ρ => rdP ρ 0) (fun ρ => rdP ρ 2)) ρ)) ((fun _ => some []) ρ)) ρ))) ρ)) ρ)) ρ)) ρ) ((fun ρ => seqR ((fun ρ => retO ((fun _ => some (.bl false)) ρ)) ρ) (fun ρ => .next ρ)) ρ) ((fun ρ => .next ρ) ρ)) ρ) (fun ρ => .next ρ)))
noncomputable def C_law_good_0 : VE → Option D := (bin2 (inD false) (fun ρ => rdP ρ 0) (fun ρ => rdP ρ 1))
noncomputable def g_law_good : VE → Res := (fun ρ => seqR ((fun ρ => iteR ((fun ρ => notO ((fun ρ => truD ((bltO isD (fun ρ => consO (rdA ρ 0) ((fun ρ => consO (valO ((fun _ => some (.ty "list")) ρ)) ((fun _ => some []) ρ)) ρ))) ρ)) ρ)) ρ) ((fun ρ => seqR ((fun ρ => retO ((fun _ => some (.bl false)) ρ)) ρ) (fun ρ => .next ρ)) ρ) ((fun ρ => .next ρ) ρ)) ρ) (fun ρ => seqR ((forO (fun ρ => (((fun ρ => consO (valO ((bltO lenD (fun ρ => consO (rdA ρ 0) ((fun _ => some []) ρ))) ρ)) ((fun _ => some []) ρ)) ρ).bind vals).bind rng1) (bName 2) L_law_good_0) ρ) (fun ρ => seqR ((fun ρ => retO ((bltO allD (fun ρ => consO (valO ((fun ρ => lstO ((compF 1 [0] (fun ρ => ((fun ρ => rdQ ρ 1) ρ).bind seqItems) (bName 0) (fun _ => some true) C_law_good_0) ρ)) ρ)) ((fun _ => some []) ρ))) ρ)) ρ) (fun ρ => .next ρ))))
noncomputable def F_law_good : List Sl → Option Rv := fnP 2 3 g_law_good
noncomputable def g_key_before : VE → Res := (fun ρ => seqR ((fun ρ => retO ((bin2 ltO (callO F_key_rank (fun ρ => consO (rdA ρ 0) ((fun _ => some []) ρ))) (callO F_key_rank (fun ρ => consO (rdA ρ 1) ((fun _ => some []) ρ)))) ρ)) ρ) (fun ρ => .next ρ))
noncomputable def F_key_before : List Sl → Option Rv := fnP 2 2 g_key_before
noncomputable def C_law_keys_0 : VE → Option D := (callO F_law_key (fun ρ => consO (rdA ρ 1) ((fun ρ => consO (rdA ρ 0) ((fun _ => some []) ρ)) ρ)))
noncomputable def L_law_keys_0 : VE → Res := (fun ρ => seqR ((fun ρ => setR 2 ((bin2 modD (bin2 addD (bin2 addD (bin2 mulD (fun ρ => rdP ρ 2) (fun _ => some (.int (48271)))) (bin2 mulD (fun _ => some (.int (11))) (fun ρ => rdP ρ 3))) (fun _ => some (.int (1)))) (fun _ => some (.int (2147483647)))) ρ) ρ) ρ) (fun ρ => seqR ((fun ρ => appR 1 ((callO F_law_key (fun ρ => consO (rdA ρ 0) ((fun ρ => consO (rdA ρ 2) ((fun _ => some []) ρ)) ρ))) ρ) ρ) ρ) (fun ρ => .next ρ)))
noncomputable def P_law_keys_0 : VE → Res := (fun ρ => setRF 1 ((compF 1 [0] (fun ρ => ((sl3 (fun ρ => rdP ρ 0) (fun ρ => asI ((fun _ => some (.int (6))) ρ)) (fun ρ => asI ((fun _ => some (.int (56))) ρ)) slD) ρ).bind seqItems) (bName 0) (fun _ => some true) C_law_keys_0) ρ) ρ)
noncomputable def P_law_keys_1 : VE → Res := (fun ρ => setR 2 ((bin2 modD (callO F_law_cell_at (fun ρ => consO (rdA ρ 0) ((fun ρ => consO (valO ((fun _ => some (.int (0))) ρ)) ((fun _ => some []) ρ)) ρ))) (fun _ => some (.int (2147483647)))) ρ) ρ)
noncomputable def P_law_keys_2 : VE → Res := (forO (fun ρ => (((fun ρ => consO (valO ((bin2 modD (callO F_law_cell_at (fun ρ => consO (rdA ρ 0) ((fun ρ => consO (valO ((fun _ => some (.int (0))) ρ)) ((fun _ => some []) ρ)) ρ))) (fun _ => some (.int (51)))) ρ)) ((fun _ => some []) ρ)) ρ).bind vals).bind rng1) (bName 3) L_law_keys_0)
noncomputable def P_law_keys_3 : VE → Res := (fun ρ => iteR ((fun ρ => asB ((bin2 eqO (bin2 modD (callO F_law_cell_at (fun ρ => consO (rdA ρ 0) ((fun ρ => consO (valO ((fun _ => some (.int (4))) ρ)) ((fun _ => some []) ρ)) ρ))) (fun _ => some (.int (2)))) (fun _ => some (.int (1)))) ρ)) ρ) ((fun ρ => seqR ((fun ρ => setR 1 ((bin2 addD (fun ρ => rdP ρ 1) (sl3 (sl3 (fun ρ => rdP ρ 1) (fun ρ => asI ((bin2 modD (bin2 fdivD (callO F_law_cell_at (fun ρ => consO (rdA ρ 0) ((fun ρ => consO (valO ((fun _ => some (.int (4))) ρ)) ((fun _ => some []) ρ)) ρ))) (fun _ => some (.int (2)))) (fun _ => some (.int (7)))) ρ)) (fun _ => some none) slD) (fun _ => some none) (fun ρ => asI ((fun _ => some (.int (9))) ρ)) slD)) ρ) ρ) ρ) (fun ρ => .next ρ)) ρ) ((fun ρ => .next ρ) ρ))
noncomputable def P_law_keys_4 : VE → Res := (fun ρ => altR (isOwn 1 ρ) (retF (rdO ρ 1)) (retO (rdV ρ 1)))
noncomputable def S_law_keys_5 : VE → Res := fun ρ => .next ρ
noncomputable def S_law_keys_4 : VE → Res := fun ρ => seqR (P_law_keys_4 ρ) S_law_keys_5
noncomputable def S_law_keys_3 : VE → Res := fun ρ => seqR (P_law_keys_3 ρ) S_law_keys_4
noncomputable def S_law_keys_2 : VE → Res := fun ρ => seqR (P_law_keys_2 ρ) S_law_keys_3
noncomputable def S_law_keys_1 : VE → Res := fun ρ => seqR (P_law_keys_1 ρ) S_law_keys_2
noncomputable def S_law_keys_0 : VE → Res := fun ρ => seqR (P_law_keys_0 ρ) S_law_keys_1
noncomputable def g_law_keys : VE → Res := S_law_keys_0
noncomputable def F_law_keys : List Sl → Option Rv := fnP 1 4 g_law_keys
noncomputable def L_in_order_0 : VE → Res := (fun ρ => seqR ((fun ρ => iteR ((fun ρ => orB ((fun ρ => notO ((fun ρ => truD ((fun ρ => rdP ρ 1) ρ)) ρ)) ρ) ((fun ρ => asB ((bin2 neO (bin2 ixD (fun ρ => rdP ρ 1) (fun ρ => negD ((fun _ => some (.int (1))) ρ))) (fun ρ => rdP ρ 2)) ρ)) ρ)) ρ) ((fun ρ => seqR ((fun ρ => appR 1 ((fun ρ => rdV ρ 2) ρ) ρ) ρ) (fun ρ => .next ρ)) ρ) ((fun ρ => .next ρ) ρ)) ρ) (fun ρ => .next ρ))
noncomputable def g_in_order : VE → Res := (fun ρ => seqR ((fun ρ => setRF 1 ((fun ρ => shortO (((fun _ => some []) ρ).bind vals)) ρ) ρ) ρ) (fun ρ => seqR ((forO (fun ρ => ((fun ρ => lstO ((sortKF F_key_rank (fun ρ => rdP ρ 0)) ρ)) ρ).bind seqItems) (bName 2) L_in_order_0) ρ) (fun ρ => seqR ((fun ρ => retF (rdO ρ 1)) ρ) (fun ρ => .next ρ))))
noncomputable def F_in_order : List Sl → Option Rv := fnP 1 3 g_in_order
noncomputable def L_law_0 : VE → Res := (fun ρ => seqR ((fun ρ => setR 6 ((callO F_key_before (fun ρ => consO (rdA ρ 4) ((fun ρ => consO (rdA ρ 5) ((fun _ => some []) ρ)) ρ))) ρ) ρ) ρ) (fun ρ => seqR ((fun ρ => iteR ((fun ρ => orB ((fun ρ => notO ((fun ρ => truD ((bltO isD (fun ρ => consO (rdA ρ 6) ((fun ρ => consO (valO ((fun _ => some (.ty "bool")) ρ)) ((fun _ => some []) ρ)) ρ))) ρ)) ρ)) ρ) ((fun ρ => asB ((bin2 neO (fun ρ => rdP ρ 6) (callO F_law_ahead (fun ρ => consO (rdA ρ 4) ((fun ρ => consO (rdA ρ 5) ((fun _ => some []) ρ)) ρ)))) ρ)) ρ)) ρ) ((fun ρ => seqR ((fun ρ => retO ((fun _ => some (.bl false)) ρ)) ρ) (fun ρ => .next ρ)) ρ) ((fun ρ => .next ρ) ρ)) ρ) (fun ρ => .next ρ)))
noncomputable def P_law_0 : VE → Res := (fun ρ => setR 1 ((callO F_law_keys (fun ρ => consO (rdA ρ 0) ((fun _ => some []) ρ))) ρ) ρ)
noncomputable def P_law_1 : VE → Res := (fun ρ => setR 2 ((callO F_law_key (fun ρ => consO (rdA ρ 0) ((fun ρ => consO (valO ((callO F_law_cell_at (fun ρ => consO (rdA ρ 0) ((fun ρ => consO (valO ((fun _ => some (.int (5))) ρ)) ((fun _ => some []) ρ)) ρ))) ρ)) ((fun _ => some []) ρ)) ρ))) ρ) ρ)
noncomputable def P_law_2 : VE → Res := (fun ρ => setR 3 ((sl3 (bin2 addD (sl3 (fun ρ => rdP ρ 2) (fun _ => some none) (fun ρ => asI ((bin2 modD (callO F_law_cell_at (fun ρ => consO (rdA ρ 0) ((fun ρ => consO (valO ((fun _ => some (.int (4))) ρ)) ((fun _ => some []) ρ)) ρ))) (fun _ => some (.int (5)))) ρ)) slD) (callO F_law_key (fun ρ => consO (rdA ρ 0) ((fun ρ => consO (valO ((bin2 fdivD (callO F_law_cell_at (fun ρ => consO (rdA ρ 0) ((fun ρ => consO (valO ((fun _ => some (.int (5))) ρ)) ((fun _ => some []) ρ)) ρ))) (fun _ => some (.int (5)))) ρ)) ((fun _ => some []) ρ)) ρ)))) (fun _ => some none) (fun ρ => asI ((fun _ => some (.int (4))) ρ)) slD) ρ) ρ)
noncomputable def P_law_3 : VE → Res := (forO (fun ρ => ((fun ρ => lstO ((fun ρ => shortO (((fun ρ => consO (valO ((fun ρ => (shortO (((fun ρ => consO (valO ((fun ρ => rdV ρ 2) ρ)) ((fun ρ => consO (valO ((fun ρ => rdV ρ 3) ρ)) ((fun _ => some []) ρ)) ρ)) ρ).bind vals)).map D.tup) ρ)) ((fun ρ => consO (valO ((fun ρ => (shortO (((fun ρ => consO (valO ((fun ρ => rdV ρ 3) ρ)) ((fun ρ => consO (valO ((fun ρ => rdV ρ 2) ρ)) ((fun _ => some []) ρ)) ρ)) ρ).bind vals)).map D.tup) ρ)) ((fun ρ => consO (valO ((fun ρ => (shortO (((fun ρ => consO (valO ((fun ρ => rdV ρ 2) ρ)) ((fun ρ => consO (valO ((fun ρ => rdV ρ 2) ρ)) ((fun _ => some []) ρ)) ρ)) ρ).bind vals)).map D.tup) ρ)) ((fun _ => some []) ρ)) ρ)) ρ)) ρ).bind vals)) ρ)) ρ).bind seqItems) (bTup 2 (bCons (bName 4) (bCons (bName 5) bNil))) L_law_0)
noncomputable def P_law_4 : VE → Res := (fun ρ => setRF 7 ((bltF lstD (fun ρ => consO (rdA ρ 1) ((fun _ => some []) ρ))) ρ) ρ)
noncomputable def P_law_5 : VE → Res := (fun ρ => setRF 8 ((callF F_in_order (fun ρ => consO (rdA ρ 7) ((fun _ => some []) ρ))) ρ) ρ)
noncomputable def P_law_6 : VE → Res := (fun ρ => iteR ((fun ρ => orB ((fun ρ => notO ((fun ρ => truD ((callO F_law_good (fun ρ => consO (rdA ρ 8) ((fun ρ => consO (rdA ρ 1) ((fun _ => some []) ρ)) ρ))) ρ)) ρ)) ρ) ((fun ρ => asB ((bin2 neO (fun ρ => rdP ρ 7) (fun ρ => rdP ρ 1)) ρ)) ρ)) ρ) ((fun ρ => seqR ((fun ρ => retO ((fun _ => some (.bl false)) ρ)) ρ) (fun ρ => .next ρ)) ρ) ((fun ρ => .next ρ) ρ))
noncomputable def P_law_7 : VE → Res := (fun ρ => setR 9 ((fun ρ => lstO ((bltF lstD (fun ρ => consO (rdA ρ 8) ((fun _ => some []) ρ))) ρ)) ρ) ρ)
noncomputable def P_law_8 : VE → Res := (fun ρ => appR 8 ((fun ρ => (shortO (((fun ρ => consO (valO ((fun _ => some .non) ρ)) ((fun ρ => consO (valO ((fun _ => some (.int (1))) ρ)) ((fun _ => some []) ρ)) ρ)) ρ).bind vals)).map D.tup) ρ) ρ)
noncomputable def P_law_9 : VE → Res := (fun ρ => iteR ((fun ρ => asB ((bin2 neO (fun ρ => rdP ρ 7) (fun ρ => rdP ρ 1)) ρ)) ρ) ((fun ρ => seqR ((fun ρ => retO ((fun _ => some (.bl false)) ρ)) ρ) (fun ρ => .next ρ)) ρ) ((fun ρ => .next ρ) ρ))
noncomputable def P_law_10 : VE → Res := (fun ρ => revR 7 ρ)
noncomputable def P_law_11 : VE → Res := (fun ρ => retO ((fun ρ => blO (andO (asB ((bin2 eqO (callO F_in_order (fun ρ => consO (rdA ρ 7) ((fun _ => some []) ρ))) (fun ρ => rdP ρ 9)) ρ)) (asB ((bin2 eqO (callO F_in_order (fun ρ => consO (valO ((fun ρ => lstO ((bltF lstD (fun ρ => consO (rdA ρ 9) ((fun _ => some []) ρ))) ρ)) ρ)) ((fun _ => some []) ρ))) (fun ρ => rdP ρ 9)) ρ)))) ρ))
noncomputable def S_law_12 : VE → Res := fun ρ => .next ρ
noncomputable def S_law_11 : VE → Res := fun ρ => seqR (P_law_11 ρ) S_law_12
noncomputable def S_law_10 : VE → Res := fun ρ => seqR (P_law_10 ρ) S_law_11
noncomputable def S_law_9 : VE → Res := fun ρ => seqR (P_law_9 ρ) S_law_10
noncomputable def S_law_8 : VE → Res := fun ρ => seqR (P_law_8 ρ) S_law_9
noncomputable def S_law_7 : VE → Res := fun ρ => seqR (P_law_7 ρ) S_law_8
noncomputable def S_law_6 : VE → Res := fun ρ => seqR (P_law_6 ρ) S_law_7
noncomputable def S_law_5 : VE → Res := fun ρ => seqR (P_law_5 ρ) S_law_6
noncomputable def S_law_4 : VE → Res := fun ρ => seqR (P_law_4 ρ) S_law_5
noncomputable def S_law_3 : VE → Res := fun ρ => seqR (P_law_3 ρ) S_law_4
noncomputable def S_law_2 : VE → Res := fun ρ => seqR (P_law_2 ρ) S_law_3
noncomputable def S_law_1 : VE → Res := fun ρ => seqR (P_law_1 ρ) S_law_2
noncomputable def S_law_0 : VE → Res := fun ρ => seqR (P_law_0 ρ) S_law_1
noncomputable def g_law : VE → Res := S_law_0
noncomputable def F_law : List Sl → Option Rv := fnP 1 10 g_law
def lnD (l : List At) : D := .tup (l.map aD)
theorem eqD_aD : ∀ (a b : At), eqD (aD a) (aD b) = decide (a = b) := by
  intro a b
  cases a <;> cases b <;> simp [aD]
theorem eqDs_aD : ∀ (a b : List At), eqDs (a.map aD) (b.map aD) = decide (a = b)
  | [], [] => by simp
  | [], _ :: _ => by simp
  | _ :: _, [] => by simp
  | x :: a, y :: b => by
    have ih := eqDs_aD a b
    rw [Bool.eq_iff_iff]
    simp [eqD_aD, ih]
theorem okD_aD (n : Nat) (a : At) : okD n (aD a) = true := by cases a <;> cases n <;> rfl
theorem okD_lnD (n : Nat) (l : List At) : okD (n + 1) (lnD l) = true := by
  show (l.map aD).all (okD n) = true
  rw [List.all_map, List.all_eq_true]
  exact fun a _ => okD_aD n a
theorem neO_ln (a b : List At) : neO (lnD a) (lnD b) = some (.bl (!decide (a = b))) := by
  have h1 := okD_lnD 11 a
  have h2 := okD_lnD 11 b
  have h3 : eqD (lnD a) (lnD b) = decide (a = b) := by simp only [lnD, eqD, eqDs_aD]
  simp only [neO, deep_eq, h1, h2, h3, Bool.and_self, if_true]
theorem neO_at (a b : At) : neO (aD a) (aD b) = some (.bl (!decide (a = b))) := by
  simp only [neO, deep_eq, okD_aD, eqD_aD, Bool.and_self, if_true]
theorem cell_at_eq (s : Sl) (ns : List Int) (hs : s = .val (.lst (ns.map D.int)) ∨ s = .lent (ns.map D.int)) (k : Int) (h0 : 0 ≤ k) : F_law_cell_at [s, .val (.int k)] = some (.val (.int (ns.getD k.toNat 0))) := by
  by_cases h : k < ns.length
  · have hk : k.toNat < ns.length := by omega
    rcases hs with rfl | rfl <;> simp [F_law_cell_at, fnP, g_law_cell_at, h, atI, ixN, h0, hk]
  · have hk : ns.length ≤ k.toNat := by omega
    rcases hs with rfl | rfl <;> simp [F_law_cell_at, fnP, g_law_cell_at, h, hk]
def signs : Str := "abcdefghijklmnopqrstuvwxyz0123456789"
theorem signs_len : signs.length = 36 := by decide +kernel
structure TO {α : Type} (lt : α → α → Bool) : Prop where
  asym : ∀ a b, lt a b = true → lt b a = false
  neg : ∀ a b c, lt a c = true → lt a b = true ∨ lt b c = true
  anti : ∀ a b, lt a b = false → lt b a = false → a = b
theorem TO.irr {α : Type} {lt : α → α → Bool} (T : TO lt) (a : α) : lt a a = false := by
  cases h : lt a a with
  | false => rfl
  | true => have := T.asym a a h; rw [h] at this; cases this
theorem TO.trans {α : Type} {lt : α → α → Bool} (T : TO lt) {a b c : α} (h1 : lt a b = true) (h2 : lt b c = true) : lt a c = true := by
  rcases T.neg a c b h1 with h | h
  · exact h
  · rw [T.asym b c h2] at h; cases h
def insG {α : Type} (lt : α → α → Bool) (x : α) : List α → List α
  | [] => [x]
  | y :: r => if lt x y then x :: y :: r else y :: insG lt x r
def srtG {α : Type} (lt : α → α → Bool) : List α → List α
  | [] => []
  | x :: r => insG lt x (srtG lt r)
theorem insG_perm {α : Type} (lt : α → α → Bool) (x : α) : ∀ l, (insG lt x l).Perm (x :: l)
  | [] => .refl _
  | y :: r => by
    unfold insG
    split
    · exact .refl _
    · exact ((insG_perm lt x r).cons y).trans (.swap x y r)
theorem srtG_perm {α : Type} (lt : α → α → Bool) : ∀ l, (srtG lt l).Perm l
  | [] => .refl _
  | x :: r => (insG_perm lt x _).trans ((srtG_perm lt r).cons x)
theorem insG_pair {α : Type} {lt : α → α → Bool} (T : TO lt) (x : α) : ∀ l : List α, l.Pairwise (fun a b => lt b a = false) → (insG lt x l).Pairwise fun a b => lt b a = false
  | [], _ => by simp [insG]
  | y :: r, hp => by
    obtain ⟨h1, h2⟩ := List.pairwise_cons.mp hp
    unfold insG
    split
    · next hl =>
      refine List.pairwise_cons.mpr ⟨fun z hz => ?_, hp⟩
      rcases List.mem_cons.mp hz with e | hz
      · subst e; exact T.asym x z hl
      · cases hc : lt z x with
        | false => rfl
        | true =>
          rcases T.neg z y x hc with q | q
          · rw [h1 z hz] at q; cases q
          · rw [T.asym x y hl] at q; cases q
    · next hl =>
      rw [Bool.not_eq_true] at hl
      refine List.pairwise_cons.mpr ⟨fun z hz => ?_, insG_pair T x r h2⟩
      rcases List.mem_cons.mp ((insG_perm lt x r).subset hz) with e | hz
      · subst e; exact hl
      · exact h1 z hz
theorem srtG_pair {α : Type} {lt : α → α → Bool} (T : TO lt) : ∀ l : List α, (srtG lt l).Pairwise fun a b => lt b a = false
  | [] => .nil
  | x :: r => insG_pair T x _ (srtG_pair T r)
theorem insK_map {α : Type} (f : α → D) (lt : α → α → Bool) (lk : D → D → Bool) (x : α) : ∀ l : List α, (∀ y ∈ l, lk (f x) (f y) = lt x y) → insK lk (f x) (l.map f) = (insG lt x l).map f
  | [], _ => rfl
  | y :: r, h => by
    have h1 := h y List.mem_cons_self
    have ih := insK_map f lt lk x r fun z hz => h z (List.mem_cons_of_mem _ hz)
    simp only [List.map_cons, insK, insG, h1, ih]
    split <;> rfl
theorem srtK_map {α : Type} (f : α → D) (lt : α → α → Bool) (lk : D → D → Bool) : ∀ l : List α, (∀ x ∈ l, ∀ y ∈ l, lk (f x) (f y) = lt x y) → srtK lk (l.map f) = (srtG lt l).map f
  | [], _ => rfl
  | x :: r, h => by
    have ih := srtK_map f lt lk r fun y hy z hz => h y (List.mem_cons_of_mem _ hy) z (List.mem_cons_of_mem _ hz)
    simp only [List.map_cons, srtK, srtG, ih]
    exact insK_map f lt lk x _ fun y hy => h x List.mem_cons_self y (List.mem_cons_of_mem _ ((srtG_perm lt r).subset hy))
theorem sort_map {α : Type} {F : List Sl → Option Rv} (f : α → D) {lt : α → α → Bool} (T : TO lt) (b : Option Bool) (xs : List α) (few : xs.length < 1000) (ky : α → D) (tells : ∀ a ∈ xs, F [.val (f a)] = some (.val (ky a))) (mode : ∀ a ∈ xs, KMode b (ky a)) (cmp : ∀ a ∈ xs, ∀ c ∈ xs, ltN 6 (ky a) (ky c) = some (lt a c)) : sortK F (xs.map f) = some ((srtG lt xs).map f) := by
  have hk : ∀ a ∈ xs, kfOf F (f a) = ky a := fun a ha => by unfold kfOf; rw [tells a ha]; rfl
  have hl : ∀ a ∈ xs, ∀ c ∈ xs, ltF F (f a) (f c) = lt a c := fun a ha c hc => ltF_some (by rw [hk a ha, hk c hc]; exact cmp a ha c hc)
  have ok : SortOk F (xs.map f) := {
    few := by simpa using few
    tells := fun x hx => by obtain ⟨a, ha, rfl⟩ := List.mem_map.mp hx; exact ⟨_, tells a ha⟩
    mode := ⟨b, fun x hx => by obtain ⟨a, ha, rfl⟩ := List.mem_map.mp hx; rw [hk a ha]; exact mode a ha⟩
    cmp := fun x hx y hy => by
      obtain ⟨a, ha, rfl⟩ := List.mem_map.mp hx
      obtain ⟨c, hc, rfl⟩ := List.mem_map.mp hy
      rw [hk a ha, hk c hc]; exact ⟨_, cmp a ha c hc⟩
    asym := fun x hx y hy h => by
      obtain ⟨a, ha, rfl⟩ := List.mem_map.mp hx
      obtain ⟨c, hc, rfl⟩ := List.mem_map.mp hy
      rw [hl a ha c hc] at h; rw [hl c hc a ha]; exact T.asym a c h
    neg := fun x hx y hy z hz h => by
      obtain ⟨a, ha, rfl⟩ := List.mem_map.mp hx
      obtain ⟨c, hc, rfl⟩ := List.mem_map.mp hy
      obtain ⟨e, he, rfl⟩ := List.mem_map.mp hz
      rw [hl a ha e he] at h; rw [hl a ha c hc, hl c hc e he]; exact T.neg a c e h
    anti := fun x hx y hy h1 h2 => by
      obtain ⟨a, ha, rfl⟩ := List.mem_map.mp hx
      obtain ⟨c, hc, rfl⟩ := List.mem_map.mp hy
      rw [hl a ha c hc] at h1; rw [hl c hc a ha] at h2; rw [T.anti a c h1 h2] }
  rw [sortK_eq ok, srtK_map f lt _ xs hl]
def ded {α : Type} [DecidableEq α] : Option α → List α → List α
  | _, [] => []
  | p, a :: r => if p = some a then ded p r else a :: ded (some a) r
theorem ded_sub {α : Type} [DecidableEq α] : ∀ (l : List α) (p : Option α) (a : α), a ∈ ded p l → a ∈ l
  | [], _, _, h => h
  | b :: r, p, a, h => by
    unfold ded at h
    split at h
    · exact List.mem_cons_of_mem _ (ded_sub r p a h)
    · rcases List.mem_cons.mp h with rfl | h
      · exact List.mem_cons_self
      · exact List.mem_cons_of_mem _ (ded_sub r _ a h)
theorem ded_sup {α : Type} [DecidableEq α] : ∀ (l : List α) (p : Option α) (a : α), a ∈ l → a ∈ ded p l ∨ p = some a
  | [], _, _, h => by cases h
  | b :: r, p, a, h => by
    unfold ded
    split
    · next e =>
      rcases List.mem_cons.mp h with rfl | h
      · exact .inr e
      · exact ded_sup r p a h
    · rcases List.mem_cons.mp h with rfl | h
      · exact .inl List.mem_cons_self
      · rcases ded_sup r (some b) a h with h | h
        · exact .inl (List.mem_cons_of_mem _ h)
        · cases h; exact .inl List.mem_cons_self
theorem ded_mem {α : Type} [DecidableEq α] (l : List α) (a : α) : a ∈ ded none l ↔ a ∈ l := ⟨ded_sub l none a, fun h => by rcases ded_sup l none a h with h | h; exact h; cases h⟩
theorem ded_strict {α : Type} [DecidableEq α] {lt : α → α → Bool} (T : TO lt) : ∀ (l : List α) (p : Option α), l.Pairwise (fun a b => lt b a = false) → (∀ q, p = some q → ∀ x ∈ l, lt x q = false) → (ded p l).Pairwise (fun a b => lt a b = true) ∧ ∀ q, p = some q → ∀ x ∈ ded p l, lt q x = true
  | [], p, _, _ => ⟨.nil, fun _ _ _ h => nomatch h⟩
  | a :: r, p, h, hp => by
    obtain ⟨h1, h2⟩ := List.pairwise_cons.mp h
    unfold ded
    split
    · next e => exact ded_strict T r p h2 fun q hq x hx => hp q hq x (List.mem_cons_of_mem _ hx)
    · next e =>
      obtain ⟨i1, i2⟩ := ded_strict T r (some a) h2 fun q hq x hx => by cases hq; exact h1 x hx
      refine ⟨List.pairwise_cons.mpr ⟨fun x hx => i2 a rfl x hx, i1⟩, fun q hq x hx => ?_⟩
      have hqa : lt q a = true := by
        cases hc : lt q a with
        | true => rfl
        | false => exact absurd (by rw [hq, T.anti q a hc (hp q hq a List.mem_cons_self)]) e
      rcases List.mem_cons.mp hx with rfl | hx
      · exact hqa
      · exact T.trans hqa (i2 a rfl x hx)
def ltA : At → At → Bool
  | .non, .non => false
  | .non, _ => true
  | .int i, .int j => decide (i < j)
  | .int _, .str _ => true
  | .str x, .str y => decide (x.cps.toList < y.cps.toList)
  | _, _ => false
theorem strx {x y : Str} (h : x.cps.toList = y.cps.toList) : x = y := by
  obtain ⟨⟨a⟩⟩ := x
  obtain ⟨⟨b⟩⟩ := y
  simp at h
  rw [h]
theorem TO_A : TO ltA := {
  asym := fun a b h => by
    cases a <;> cases b <;> simp only [ltA, decide_eq_true_eq, decide_eq_false_iff_not, Bool.false_eq_true] at h ⊢
    · omega
    · exact List.lt_asymm h
  neg := fun a b c h => by
    cases a <;> cases c <;> simp only [ltA, decide_eq_true_eq, Bool.false_eq_true] at h <;> cases b <;> simp only [ltA, decide_eq_true_eq, Bool.false_eq_true, true_or, or_true, false_or, or_false]
    · omega
    · next x y z =>
      by_cases h1 : x.cps.toList < z.cps.toList
      · exact .inl h1
      · exact .inr (List.lt_of_le_of_lt (List.not_lt.mp h1) h)
  anti := fun a b h1 h2 => by
    cases a <;> cases b <;> simp only [ltA, decide_eq_false_iff_not, Bool.true_eq_false] at h1 h2
    · rfl
    · rw [At.int.injEq]; omega
    · rw [At.str.injEq]; exact strx (List.le_antisymm (List.not_lt.mp h2) (List.not_lt.mp h1)) }
def ltL : List At → List At → Bool
  | [], [] => false
  | [], _ :: _ => true
  | _ :: _, [] => false
  | a :: r, b :: s => if a = b then ltL r s else ltA a b
theorem ltL_asym : ∀ a b, ltL a b = true → ltL b a = false
  | [], [], _ => rfl
  | [], _ :: _, _ => rfl
  | _ :: _, [], h => by cases h
  | a :: r, b :: s, h => by
    unfold ltL at h ⊢
    by_cases e : a = b
    · subst e; simp only [if_true] at h ⊢; exact ltL_asym r s h
    · rw [if_neg e] at h; rw [if_neg (fun z => e z.symm)]; exact TO_A.asym a b h
theorem ltL_neg : ∀ a b c, ltL a c = true → ltL a b = true ∨ ltL b c = true
  | [], [], c, h => .inr h
  | [], _ :: _, _, _ => .inl rfl
  | _ :: _, _, [], h => by cases h
  | _ :: _, [], _ :: _, _ => .inr rfl
  | a :: r, b :: s, c :: t, h => by
    unfold ltL at h ⊢
    by_cases e1 : a = b
    · subst e1
      by_cases e2 : a = c
      · simp only [e2, if_true] at h ⊢; exact ltL_neg r s t h
      · rw [if_neg e2] at h; right; rw [if_neg e2]; exact h
    · rw [if_neg e1]
      by_cases e2 : b = c
      · subst e2; rw [if_neg e1] at h; exact .inl h
      · rw [if_neg e2]
        by_cases e3 : a = c
        · subst e3
          cases hc : ltA a b with
          | true => exact .inl rfl
          | false =>
            cases hd : ltA b a with
            | true => exact .inr rfl
            | false => exact absurd (TO_A.anti a b hc hd) e1
        · rw [if_neg e3] at h; exact TO_A.neg a b c h
theorem ltL_anti : ∀ a b, ltL a b = false → ltL b a = false → a = b
  | [], [], _, _ => rfl
  | [], _ :: _, h, _ => by cases h
  | _ :: _, [], _, h => by cases h
  | a :: r, b :: s, h1, h2 => by
    unfold ltL at h1 h2
    by_cases e : a = b
    · subst e; simp only [if_true] at h1 h2; rw [ltL_anti r s h1 h2]
    · rw [if_neg e] at h1; rw [if_neg (fun z => e z.symm)] at h2; exact absurd (TO_A.anti a b h1 h2) e
theorem TO_L : TO ltL := ⟨ltL_asym, ltL_neg, ltL_anti⟩
def rk2 : At → D
  | .non => .tup [.int 0, .int 0]
  | .int i => .tup [.int 1, .int i]
  | .str x => .tup [.int 2, .str x]
theorem rk2_lt (n : Nat) (a b : At) : ltN (n + 2) (rk2 a) (rk2 b) = some (ltA a b) := by
  cases a <;> cases b <;> simp [rk2, ltA]
  · intro e; omega
  · intro e; subst e; simp
theorem rk2_eq (a b : At) : eqD (rk2 a) (rk2 b) = decide (a = b) := by
  cases a <;> cases b <;> simp [rk2]
theorem rk2_ok (n : Nat) (a : At) : okD (n + 1) (rk2 a) = true := by cases a <;> cases n <;> rfl
theorem rk2s_lt (n : Nat) : ∀ l m : List At, ltDs (ltN (n + 2)) (l.map rk2) (m.map rk2) = some (ltL l m)
  | [], [] => rfl
  | [], _ :: _ => rfl
  | _ :: _, [] => rfl
  | a :: r, b :: s => by
    have ih := rk2s_lt n r s
    have h1 := rk2_ok 11 a
    have h2 := rk2_ok 11 b
    have h3 := rk2_eq a b
    have h4 := rk2_lt n a b
    simp only [List.map_cons, ltDs, deep_eq, h1, h2, h3, h4, ih, ltL, Bool.and_self, if_true, decide_eq_true_eq]
    split <;> rfl
theorem ded_len {α : Type} [DecidableEq α] : ∀ (l : List α) (p : Option α), (ded p l).length ≤ l.length
  | [], _ => Nat.le_refl _
  | a :: r, p => by
    unfold ded
    split
    · exact Nat.le_succ_of_le (ded_len r p)
    · exact Nat.succ_le_succ (ded_len r _)
theorem fn_ret {np n : Nat} {g : VE → Res} {ss : List Sl} {r : Rv} (h : ss.length = np) (e : g (ss ++ List.replicate (n - np) .no) = .ret r) : fnP np n g ss = some r := by
  unfold fnP
  rw [if_pos h, e]
theorem atI_last {α : Type} (xs : List α) (x : α) : atI (xs ++ [x]) (-1) = some x := by
  have h1 : (-1 + ((xs.length : Int) + 1)).toNat = xs.length := by omega
  have h2 : -((xs.length : Int) + 1) ≤ -1 := by omega
  simp [atI, ixN, h1, h2]
theorem value_rank_eq (a : At) : F_value_rank [.val (aD a)] = some (.val (rk2 a)) := by
  have h2 : (2 : Nat) ≤ sizeLine := by decide
  cases a <;> simp [F_value_rank, fnP, g_value_rank, F_is_whole, g_is_whole, aD, rk2, h2]
theorem key_rank_eq (l : List At) (h : l.length ≤ 1000) : F_key_rank [.val (lnD l)] = some (.val (.tup (l.map rk2))) := by
  have hz : l.length ≤ sizeLine := Nat.le_trans h (by decide)
  have hc := compL_map (b := bName 0) (e := C_key_rank_0) (ρ := [.no]) aD rk2 l fun a _ => ⟨[.val (aD a)], rfl, by
    have := value_rank_eq a
    simp only [C_key_rank_0, callO, consO, rdA, List.getElem?_cons_zero, Option.bind, this, Option.map, rvD]⟩
  simp [F_key_rank, fnP, g_key_rank, lnD, hz, compIn, hc, -List.map_map]
theorem in_order_run (s0 : Sl) : ∀ (ls acc : List (List At)) (s2 : Sl), acc.length + ls.length < 100000 → ∃ s2', forR (bName 2) L_in_order_0 (ls.map lnD) [s0, .own (acc.map lnD), s2] = .next [s0, .own ((acc ++ ded acc.getLast? ls).map lnD), s2']
  | [], acc, s2, _ => ⟨s2, by simp [forR, ded]⟩
  | l :: ls, acc, s2, hz => by
    simp only [List.length_cons] at hz
    have hzz : acc.length < sizeLine := Nat.lt_of_lt_of_le (show acc.length < 100000 by omega) (by decide)
    have hn : negD (some (.int 1)) = some (.int (-1)) := rfl
    simp only [List.map_cons, forR, bName, List.set_cons_succ, List.set_cons_zero]
    rcases List.eq_nil_or_concat acc with rfl | ⟨pre, x, rfl⟩
    · obtain ⟨s2', e⟩ := in_order_run s0 ls [l] (.val (lnD l)) (by simp; omega)
      refine ⟨s2', ?_⟩
      have hb : L_in_order_0 [s0, .own ([].map lnD), .val (lnD l)] = .next [s0, .own ([l].map lnD), .val (lnD l)] := by
        have h0 : (0 : Nat) < sizeLine := by decide
        simp [L_in_order_0, h0]
      have hd : ded ([] : List (List At)).getLast? (l :: ls) = l :: ded (some l) ls := rfl
      rw [hb, hd]
      exact e
    · rw [List.concat_eq_append] at hz hzz ⊢
      have hix : ixD (.lst ((pre ++ [x]).map lnD)) (.int (-1)) = some (lnD x) := by
        show atI ((pre ++ [x]).map lnD) (-1) = _
        rw [List.map_append]; exact atI_last _ _
      have htr : truD (some (.lst ((pre ++ [x]).map lnD))) = some true := by simp
      have hne := neO_ln x l
      have hlast : (pre ++ [x]).getLast? = some x := by simp
      by_cases hx : x = l
      · subst hx
        obtain ⟨s2', e⟩ := in_order_run s0 ls (pre ++ [x]) (.val (lnD x)) (by omega)
        refine ⟨s2', ?_⟩
        have hb : L_in_order_0 [s0, .own ((pre ++ [x]).map lnD), .val (lnD x)] = .next [s0, .own ((pre ++ [x]).map lnD), .val (lnD x)] := by
          simp only [L_in_order_0, seqR, iteR, orB, notO, asB, bin2, rdP, rdV, rdO, List.getElem?_cons_succ, List.getElem?_cons_zero, Option.bind, Option.map, htr, hn, hix, hne, decide_true, Bool.not_true]
        rw [hb, hlast, ded, if_pos rfl, ← hlast]
        exact e
      · obtain ⟨s2', e⟩ := in_order_run s0 ls (pre ++ [x] ++ [l]) (.val (lnD l)) (by simp at hz ⊢; omega)
        refine ⟨s2', ?_⟩
        have hl : (pre ++ [x] ++ [l]).getLast? = some l := by simp
        have hb : L_in_order_0 [s0, .own ((pre ++ [x]).map lnD), .val (lnD l)] = .next [s0, .own ((pre ++ [x] ++ [l]).map lnD), .val (lnD l)] := by
          rw [show ((pre ++ [x] ++ [l]).map lnD) = (pre ++ [x]).map lnD ++ [lnD l] by simp]
          simp only [L_in_order_0, seqR, iteR, orB, notO, asB, bin2, rdP, rdV, rdO, List.getElem?_cons_succ, List.getElem?_cons_zero, Option.bind, Option.map, htr, hn, hix, hne, hx, decide_false, Bool.not_false, Bool.not_true, appR, List.length_map, hzz, if_true, List.set_cons_succ, List.set_cons_zero]
        rw [hb, hlast, ded, if_neg (by simpa using hx)]
        rw [hl] at e
        rw [show pre ++ [x] ++ l :: ded (some l) ls = pre ++ [x] ++ [l] ++ ded (some l) ls by simp]
        exact e
theorem in_order_eq (s : Sl) (ls : List (List At)) (hs : s = .val (.lst (ls.map lnD)) ∨ s = .lent (ls.map lnD)) (hl : ls.length < 1000) (hn : ∀ l ∈ ls, l.length ≤ 1000) : F_in_order [s] = some (.own ((ded none (srtG ltL ls)).map lnD)) := by
  have hs' := sort_map (F := F_key_rank) lnD TO_L none ls hl (fun l => .tup (l.map rk2)) (fun l h => key_rank_eq l (hn l h)) (fun l h => ⟨_, rfl, fun f hf => by
    cases l with
    | nil => cases hf
    | cons a r => cases hf; cases a <;> exact ⟨_, rfl⟩⟩) (fun l _ m _ => rk2s_lt 3 l m)
  have hp := (srtG_perm ltL ls).length_eq
  obtain ⟨s2', e⟩ := in_order_run s (srtG ltL ls) [] .no (by rw [hp]; simp; omega)
  have hz : (srtG ltL ls).length ≤ sizeLine := by rw [hp]; exact Nat.le_trans (show ls.length ≤ 1000 by omega) (by decide)
  simp only [List.map_nil, List.nil_append, List.getLast?_nil] at e
  refine fn_ret rfl ?_
  show g_in_order [s, .no, .no] = _
  have hsh : shortO (some ([] : List D)) = some [] := rfl
  rcases hs with rfl | rfl <;> simp only [g_in_order, seqR, setRF, forO, sortKF, lstO, seqItems, rdP, rdO, retF, vals, hsh, hs', e, List.getElem?_cons_succ, List.getElem?_cons_zero, Option.bind, Option.map, List.set_cons_succ, List.set_cons_zero]
def Gd : At → Prop
  | .str z => (∀ c ∈ z.cps.toList, c ∈ signs.cps.toList) ∧ z.length ≤ 12
  | _ => True
theorem compL_ex {α β : Type} {b : D → VE → Option VE} {e : VE → Option D} {ρ : VE} (G : α → D) (W : β → D) (P : β → Prop) : ∀ (xs : List α), (∀ x ∈ xs, ∃ c ρ1, P c ∧ b (G x) ρ = some ρ1 ∧ e ρ1 = some (W c)) → ∃ cs : List β, compL b (fun _ => some true) e ρ (xs.map G) = some (cs.map W) ∧ cs.length = xs.length ∧ ∀ c ∈ cs, P c
  | [], _ => ⟨[], rfl, rfl, fun _ h => nomatch h⟩
  | x :: xs, h => by
    obtain ⟨c, ρ1, hp, h1, h2⟩ := h x List.mem_cons_self
    obtain ⟨cs, e1, e2, e3⟩ := compL_ex G W P xs fun y hy => h y (List.mem_cons_of_mem _ hy)
    refine ⟨c :: cs, ?_, by simp [e2], fun d hd => ?_⟩
    · simp only [List.map_cons, compL, h1, h2, consO, Option.bind, e1]
    · rcases List.mem_cons.mp hd with rfl | hd
      · exact hp
      · exact e3 d hd
abbrev cS (c : Nat) : D := .str ⟨#[c]⟩
theorem join_one : ∀ cs : List Nat, (Txt.join "" (cs.map fun c => (⟨#[c]⟩ : Str))).cps.toList = cs := by
  intro cs
  show (Builtin.Str.glued "" (cs.map fun c => (⟨#[c]⟩ : Str))).cps.toList = cs
  rw [StrLaws.glued_eq_join]
  induction cs with
  | nil => rfl
  | cons c cs ih =>
    cases cs with
    | nil => rfl
    | cons d cs =>
      show ((⟨#[c]⟩ : Str) ++ ("" : Str) ++ Str.join "" ((d :: cs).map fun c => (⟨#[c]⟩ : Str))).cps.toList = _
      have e : ∀ (x y : Str), (x ++ y).cps.toList = x.cps.toList ++ y.cps.toList := fun x y => by
        show (x.cps ++ y.cps).toList = _
        simp
      have e0 : ("" : Str).cps.toList = [] := by decide +kernel
      rw [e, e, ih, e0]; rfl
theorem sgn_at (i : Int) (h0 : 0 ≤ i) (h1 : i < 36) : ∃ c, ixD (.str "abcdefghijklmnopqrstuvwxyz0123456789") (.int i) = some (cS c) ∧ c ∈ signs.cps.toList := by
  have hl : signs.length = 36 := signs_len
  exact ixD_str (z := signs) (by rw [hl]; decide) h0 (by rw [hl]; exact h1)
theorem thing_eq (s : Sl) (ns : List Int) (hs : s = .val (.lst (ns.map D.int)) ∨ s = .lent (ns.map D.int)) (x : Int) (hx : 0 ≤ x) : ∃ a, F_law_thing [s, .val (.int x)] = some (.val (aD a)) ∧ Gd a := by
  have h1 := cell_at_eq s ns hs 1 (by omega)
  have h2 := cell_at_eq s ns hs 2 (by omega)
  have h3 := cell_at_eq s ns hs 3 (by omega)
  have hra : ∀ r, rdA (s :: r) 0 = some s := fun r => by rcases hs with rfl | rfl <;> rfl
  generalize ns.getD (Int.toNat 1) 0 = c1 at *
  generalize ns.getD (Int.toNat 2) 0 = c2 at *
  generalize ns.getD (Int.toNat 3) 0 = c3 at *
  clear hs
  have m7 : modD (.int x) (.int 7) = some (.int (x % 7)) := rfl
  by_cases hz : x % 7 = 0
  · refine ⟨.non, ?_, trivial⟩
    have e : eqO (.int (x % 7)) (.int 0) = some (.bl true) := by simp [hz]
    refine fn_ret rfl ?_
    show S_law_thing_0 [s, .val (.int x), .no, .no, .no, .no, .no] = _
    simp only [S_law_thing_0, P_law_thing_0, seqR, iteR, asB, bin2, rdP, retO, List.getElem?_cons_succ, List.getElem?_cons_zero, Option.bind, m7, e, aD]
  have e0 : eqO (.int (x % 7)) (.int 0) = some (.bl false) := by simp [hz]
  have hp : powD (.int 10) (.int 30) = some (.int 1000000000000000000000000000000) := rfl
  have hb : modD (.int c1) (.int 1000000000000000000000000000000) = some (.int (c1 % 1000000000000000000000000000000)) := rfl
  generalize (1000000000000000000000000000000 : Int) = big at *
  generalize c1 % big = ba at *
  have s0 : S_law_thing_0 [s, .val (.int x), .no, .no, .no, .no, .no] = S_law_thing_2 [s, .val (.int x), .val (.int ba), .no, .no, .no, .no] := by
    simp only [S_law_thing_0, P_law_thing_0, S_law_thing_1, P_law_thing_1, seqR, iteR, setR, asB, bin2, rdP, hra, callO, consO, valO, List.getElem?_cons_succ, List.getElem?_cons_zero, List.set_cons_succ, List.set_cons_zero, Option.bind, Option.map, m7, e0, h1, rvD_v, hp, hb]
  by_cases h4 : x % 7 < 4
  · have e4 : ltO (.int (x % 7)) (.int 4) = some (.bl true) := by simp [h4]
    have d7 : fdivD (.int x) (.int 7) = some (.int (x / 7)) := rfl
    have d14 : fdivD (.int x) (.int 14) = some (.int (x / 14)) := rfl
    have m2 : modD (.int (x / 7)) (.int 2) = some (.int (x / 7 % 2)) := rfl
    have m3 : modD (.int (x / 14)) (.int 3) = some (.int (x / 14 % 3)) := rfl
    have sb : subD (.int 0) (.int ba) = some (.int (0 - ba)) := rfl
    have hsh : shortO (some [D.int ba, .int (0 - ba)]) = some [D.int ba, .int (0 - ba)] := short_le _ (by simp)
    have hv : vals [Sl.val (.int ba), .val (.int (0 - ba))] = some [D.int ba, .int (0 - ba)] := rfl
    have hix : ∃ y, ixD (.lst [.int ba, .int (0 - ba)]) (.int (x / 7 % 2)) = some (.int y) := by
      rcases (show x / 7 % 2 = 0 ∨ x / 7 % 2 = 1 by omega) with q | q <;> rw [q]
      · exact ⟨ba, rfl⟩
      · exact ⟨0 - ba, rfl⟩
    obtain ⟨y, hix⟩ := hix
    refine ⟨.int (y + x / 14 % 3), ?_, trivial⟩
    have ad : addD (.int y) (.int (x / 14 % 3)) = some (.int (y + x / 14 % 3)) := rfl
    refine fn_ret rfl ?_
    show S_law_thing_0 [s, .val (.int x), .no, .no, .no, .no, .no] = _
    rw [s0]
    simp only [S_law_thing_2, P_law_thing_2, seqR, iteR, asB, bin2, rdP, rdV, retO, consO, valO, lstO, List.getElem?_cons_succ, List.getElem?_cons_zero, Option.bind, Option.map, m7, e4, d7, d14, m2, m3, sb, hv, hsh, hix, ad, aD]
  have e4 : ltO (.int (x % 7)) (.int 4) = some (.bl false) := by simp [h4]
  have s2 : S_law_thing_2 [s, .val (.int x), .val (.int ba), .no, .no, .no, .no] = S_law_thing_5 [s, .val (.int x), .val (.int ba), .val (.str "abcdefghijklmnopqrstuvwxyz0123456789"), .val (.int c2), .no, .no] := by
    simp only [S_law_thing_2, P_law_thing_2, S_law_thing_3, P_law_thing_3, S_law_thing_4, P_law_thing_4, seqR, iteR, setR, asB, bin2, rdP, hra, callO, consO, valO, List.getElem?_cons_succ, List.getElem?_cons_zero, List.set_cons_succ, List.set_cons_zero, Option.bind, Option.map, m7, e4, h2, rvD_v]
  have m11 : modD (.int c2) (.int 11) = some (.int (c2 % 11)) := rfl
  have a11 : addD (.int 1) (.int (c2 % 11)) = some (.int (1 + c2 % 11)) := rfl
  have hr := rng1_int (1 + c2 % 11) (by omega) (by omega)
  have hv1 : ∀ y : Int, vals [Sl.val (.int y)] = some [D.int y] := fun _ => rfl
  obtain ⟨cs, k1, k2, k3⟩ := compL_ex (b := bName 0) (e := C_law_thing_0) (ρ := [.no, .val (.str "abcdefghijklmnopqrstuvwxyz0123456789"), .val (.int c2)]) (fun k : Nat => D.int (k : Int)) cS (fun c => c ∈ signs.cps.toList) (List.range (1 + c2 % 11).toNat) (fun k hk => by
    have hk := List.mem_range.mp hk
    obtain ⟨c, q1, q2⟩ := sgn_at ((c2 / ((k : Int) + 1) + 2 * (k : Int)) % 26) (Int.emod_nonneg _ (by omega)) (by have := Int.emod_lt_of_pos (c2 / ((k : Int) + 1) + 2 * (k : Int)) (show (0 : Int) < 26 by omega); omega)
    refine ⟨c, [.val (.int (k : Int)), .val (.str "abcdefghijklmnopqrstuvwxyz0123456789"), .val (.int c2)], q2, rfl, ?_⟩
    have t1 : addD (.int (k : Int)) (.int 1) = some (.int ((k : Int) + 1)) := rfl
    have t2 : fdivD (.int c2) (.int ((k : Int) + 1)) = some (.int (c2 / ((k : Int) + 1))) := by
      show (if CDiv c2 ((k : Int) + 1) then _ else _) = _
      rw [if_pos]
      constructor <;> omega
    have t3 : mulD (.int 2) (.int (k : Int)) = some (.int (2 * (k : Int))) := by
      show (if CMul 2 (k : Int) then some (D.int (2 * (k : Int))) else none) = _
      rw [if_pos (by left; decide)]
    have t4 : addD (.int (c2 / ((k : Int) + 1))) (.int (2 * (k : Int))) = some (.int (c2 / ((k : Int) + 1) + 2 * (k : Int))) := rfl
    have t5 : modD (.int (c2 / ((k : Int) + 1) + 2 * (k : Int))) (.int 26) = some (.int ((c2 / ((k : Int) + 1) + 2 * (k : Int)) % 26)) := rfl
    simp only [C_law_thing_0, bin2, rdP, List.getElem?_cons_succ, List.getElem?_cons_zero, Option.bind, t1, t2, t3, t4, t5, q1])
  rw [List.length_range] at k2
  have q1 : shortO (some (cs.map cS)) = some (cs.map cS) := short_le _ (by simp; omega)
  have q2 : shortO (some ((List.range (1 + c2 % 11).toNat).map fun k : Nat => D.int (k : Int))) = some ((List.range (1 + c2 % 11).toNat).map fun k : Nat => D.int (k : Int)) := short_le _ (by simp; omega)
  have s5 : S_law_thing_5 [s, .val (.int x), .val (.int ba), .val (.str "abcdefghijklmnopqrstuvwxyz0123456789"), .val (.int c2), .no, .no] = S_law_thing_6 [s, .val (.int x), .val (.int ba), .val (.str "abcdefghijklmnopqrstuvwxyz0123456789"), .val (.int c2), .own (cs.map cS), .no] := by
    have hin : compIn 1 [3, 4] [s, .val (.int x), .val (.int ba), .val (.str "abcdefghijklmnopqrstuvwxyz0123456789"), .val (.int c2), .no, .no] = [.no, .val (.str "abcdefghijklmnopqrstuvwxyz0123456789"), .val (.int c2)] := rfl
    simp only [S_law_thing_5, P_law_thing_5, seqR, setRF, compF, hin, bin2, rdP, consO, valO, List.getElem?_cons_succ, List.getElem?_cons_zero, List.set_cons_succ, List.set_cons_zero, Option.bind, Option.map, m11, a11, hv1, hr, q2, k1, q1]
  have hn0 : 0 < cs.length := by omega
  have hle : cs.length ≤ 11 := by omega
  have hln : lenD [.lst (cs.map cS)] = some (.int (cs.length : Int)) := by simp
  have mln : modD (.int c3) (.int (cs.length : Int)) = some (.int (c3 % (cs.length : Int))) := by
    show (if 0 < (cs.length : Int) then some (D.int (c3 % (cs.length : Int))) else none) = _
    rw [if_pos (by omega)]
  have s6 : S_law_thing_6 [s, .val (.int x), .val (.int ba), .val (.str "abcdefghijklmnopqrstuvwxyz0123456789"), .val (.int c2), .own (cs.map cS), .no] = S_law_thing_7 [s, .val (.int x), .val (.int ba), .val (.str "abcdefghijklmnopqrstuvwxyz0123456789"), .val (.int c2), .own (cs.map cS), .val (.int (c3 % (cs.length : Int)))] := by
    have ra5 : ∀ (a b c d e f g : Sl), rdA [a, b, c, d, e, f, g] 5 = rdA [f] 0 := fun _ _ _ _ _ _ _ => rfl
    have ra6 : ∀ l, rdA [.own l] 0 = some (.lent l) := fun _ => rfl
    have pk : vals [Sl.lent (cs.map cS)] = none := rfl
    simp only [S_law_thing_6, P_law_thing_6, seqR, setR, bin2, bltO, hra, ra5, ra6, callO, consO, valO, pks, L2.pk, List.set_cons_succ, List.set_cons_zero, Option.bind, Option.map, h3, rvD_v, hln, mln]
  have fin : ∀ ds : List Nat, (∀ c ∈ ds, c ∈ signs.cps.toList) → ds.length ≤ 12 → ∀ (g : Sl), S_law_thing_8 [s, .val (.int x), .val (.int ba), .val (.str "abcdefghijklmnopqrstuvwxyz0123456789"), .val (.int c2), .own (ds.map cS), g] = .ret (.val (aD (.str (Txt.join "" (ds.map fun c => (⟨#[c]⟩ : Str)))))) ∧ Gd (.str (Txt.join "" (ds.map fun c => (⟨#[c]⟩ : Str)))) := fun ds hd hl g => by
    have e1 : ds.map cS = (ds.map fun c => (⟨#[c]⟩ : Str)).map D.str := by simp [cS]
    have h0l : ("" : Str).length = 0 := by decide +kernel
    have hsum : ((ds.map fun c => (⟨#[c]⟩ : Str)).map (·.length)).sum = ds.length := by
      clear hd hl e1
      induction ds with
      | nil => rfl
      | cons c ds ih => simp only [List.map_cons, List.sum_cons, List.length_cons, ih]; show 1 + _ = _; omega
    have hj2 : ((ds.map fun c => (⟨#[c]⟩ : Str)).map (·.length)).sum + (ds.map fun c => (⟨#[c]⟩ : Str)).length * ("" : Str).length ≤ 16777216 := by rw [h0l, hsum]; omega
    refine ⟨?_, ?_, ?_⟩
    · rw [e1]
      simp only [S_law_thing_8, P_law_thing_8, mtO, consO, rdA, List.getElem?_cons_succ, List.getElem?_cons_zero, Option.bind, pks, pk, joinD, asSs_eq, hj2, if_true, retO, seqR, aD]
    · rw [join_one]; exact hd
    · show (Txt.join "" (ds.map fun c => (⟨#[c]⟩ : Str))).cps.size ≤ 12
      rw [← Array.length_toList, join_one]; exact hl
  have d7 : fdivD (.int x) (.int 7) = some (.int (x / 7)) := rfl
  by_cases h6 : x % 7 < 6
  · have e6 : ltO (.int (x % 7)) (.int 6) = some (.bl true) := by simp [h6]
    obtain ⟨c, g1, g2⟩ := sgn_at ((c2 + x / 7 % 5) % 26) (Int.emod_nonneg _ (by omega)) (by have := Int.emod_lt_of_pos (c2 + x / 7 % 5) (show (0 : Int) < 26 by omega); omega)
    have m5 : modD (.int (x / 7)) (.int 5) = some (.int (x / 7 % 5)) := rfl
    have a5 : addD (.int c2) (.int (x / 7 % 5)) = some (.int (c2 + x / 7 % 5)) := rfl
    have m26 : modD (.int (c2 + x / 7 % 5)) (.int 26) = some (.int ((c2 + x / 7 % 5) % 26)) := rfl
    have hix : ixN (cs.map cS).length (c3 % (cs.length : Int)) = some (c3 % (cs.length : Int)).toNat := by
      refine ixN_ok (Int.emod_nonneg _ (by omega)) ?_
      rw [List.length_map]; exact Int.emod_lt_of_pos _ (by omega)
    obtain ⟨f1, f2⟩ := fin (cs.set (c3 % (cs.length : Int)).toNat c) (fun d hd => by
      rcases List.mem_or_eq_of_mem_set hd with q | q
      · exact k3 d q
      · rw [q]; exact g2) (by rw [List.length_set]; omega) (.val (.int (c3 % (cs.length : Int))))
    refine ⟨_, ?_, f2⟩
    refine fn_ret rfl ?_
    show S_law_thing_0 [s, .val (.int x), .no, .no, .no, .no, .no] = _
    rw [s0, s2, s5, s6, ← f1, List.map_set]
    simp only [S_law_thing_7, P_law_thing_7, seqR, iteR, asB, bin2, rdP, rdO, putR, List.getElem?_cons_succ, List.getElem?_cons_zero, List.set_cons_succ, List.set_cons_zero, Option.bind, m7, e6, d7, m5, a5, m26, g1, hix]
  · have e6 : ltO (.int (x % 7)) (.int 6) = some (.bl false) := by simp [h6]
    obtain ⟨c, g1, g2⟩ := sgn_at (x / 7 % 36) (Int.emod_nonneg _ (by omega)) (Int.emod_lt_of_pos _ (by omega))
    have m36 : modD (.int (x / 7)) (.int 36) = some (.int (x / 7 % 36)) := rfl
    have hzz : (cs.map cS).length < sizeLine := Nat.lt_of_lt_of_le (show (cs.map cS).length < 100 by simp; omega) (by decide)
    obtain ⟨f1, f2⟩ := fin (cs ++ [c]) (fun d hd => by
      rcases List.mem_append.mp hd with q | q
      · exact k3 d q
      · rw [List.mem_singleton.mp q]; exact g2) (by simp; omega) (.val (.int (c3 % (cs.length : Int))))
    refine ⟨_, ?_, f2⟩
    refine fn_ret rfl ?_
    show S_law_thing_0 [s, .val (.int x), .no, .no, .no, .no, .no] = _
    rw [s0, s2, s5, s6, ← f1, List.map_append]
    simp only [S_law_thing_7, P_law_thing_7, seqR, iteR, asB, bin2, rdP, rdO, appR, List.getElem?_cons_succ, List.getElem?_cons_zero, List.set_cons_succ, List.set_cons_zero, Option.bind, m7, e6, d7, m36, g1, hzz, if_true, List.map_cons, List.map_nil]
theorem key_eq (s : Sl) (ns : List Int) (hs : s = .val (.lst (ns.map D.int)) ∨ s = .lent (ns.map D.int)) (c : Int) : ∃ l : List At, F_law_key [s, .val (.int c)] = some (.val (lnD l)) ∧ l.length ≤ 4 ∧ ∀ a ∈ l, Gd a := by
  have m1 : modD (.int c) (.int 2147483629) = some (.int (c % 2147483629)) := rfl
  have mm : mulD (.int (c % 2147483629)) (.int 16807) = some (.int (c % 2147483629 * 16807)) := by
    show (if CMul (c % 2147483629) 16807 then some (D.int (c % 2147483629 * 16807)) else none) = _
    rw [if_pos (by right; decide)]
  have m2 : modD (.int (c % 2147483629 * 16807)) (.int 2147483647) = some (.int (c % 2147483629 * 16807 % 2147483647)) := rfl
  have hx : 0 ≤ c % 2147483629 * 16807 % 2147483647 := Int.emod_nonneg _ (by omega)
  generalize c % 2147483629 * 16807 % 2147483647 = x at *
  generalize c % 2147483629 * 16807 = y2 at *
  generalize c % 2147483629 = y1 at *
  have m6 : modD (.int x) (.int 6) = some (.int (x % 6)) := rfl
  have hv : vals [Sl.val (.int 2), .val (.int 1), .val (.int 3), .val (.int 2), .val (.int 4), .val (.int 0)] = some [D.int 2, .int 1, .int 3, .int 2, .int 4, .int 0] := rfl
  have hsh : shortO (some [D.int 2, .int 1, .int 3, .int 2, .int 4, .int 0]) = some [D.int 2, .int 1, .int 3, .int 2, .int 4, .int 0] := short_le _ (by simp)
  obtain ⟨j, hj, hj0, hj4⟩ : ∃ j : Int, ixD (.lst [.int 2, .int 1, .int 3, .int 2, .int 4, .int 0]) (.int (x % 6)) = some (.int j) ∧ 0 ≤ j ∧ j ≤ 4 := by
    rcases (show x % 6 = 0 ∨ x % 6 = 1 ∨ x % 6 = 2 ∨ x % 6 = 3 ∨ x % 6 = 4 ∨ x % 6 = 5 by omega) with q | q | q | q | q | q <;> rw [q]
    · exact ⟨2, rfl, by omega, by omega⟩
    · exact ⟨1, rfl, by omega, by omega⟩
    · exact ⟨3, rfl, by omega, by omega⟩
    · exact ⟨2, rfl, by omega, by omega⟩
    · exact ⟨4, rfl, by omega, by omega⟩
    · exact ⟨0, rfl, by omega, by omega⟩
  have hr := rng1_int j hj0 (by omega)
  have hv1 : ∀ y : Int, vals [Sl.val (.int y)] = some [D.int y] := fun _ => rfl
  have q2 : shortO (some ((List.range j.toNat).map fun k : Nat => D.int (k : Int))) = some ((List.range j.toNat).map fun k : Nat => D.int (k : Int)) := short_le _ (by simp; omega)
  have hv4 : vals [Sl.val (.int 3), .val (.int 71), .val (.int 1009), .val (.int 15013)] = some [D.int 3, .int 71, .int 1009, .int 15013] := rfl
  have hsh4 : shortO (some [D.int 3, .int 71, .int 1009, .int 15013]) = some [D.int 3, .int 71, .int 1009, .int 15013] := short_le _ (by simp)
  obtain ⟨s', hs', hin⟩ : ∃ s', (s' = .val (.lst (ns.map D.int)) ∨ s' = .lent (ns.map D.int)) ∧ compIn 1 [0, 2] [s, .val (.int c), .val (.int x)] = [.no, s', .val (.int x)] := by
    rcases hs with rfl | rfl
    · exact ⟨_, .inl rfl, rfl⟩
    · exact ⟨_, .inr rfl, rfl⟩
  have hra : ∀ (a : Sl) r, rdA (a :: s' :: r) 1 = some s' := fun a r => by rcases hs' with rfl | rfl <;> rfl
  obtain ⟨l, k1, k2, k3⟩ := compL_ex (b := bName 0) (e := C_law_key_0) (ρ := [.no, s', .val (.int x)]) (fun k : Nat => D.int (k : Int)) aD Gd (List.range j.toNat) (fun k hk => by
    have hk := List.mem_range.mp hk
    obtain ⟨e, he, he0, hd⟩ : ∃ e : Int, ixD (.lst [.int 3, .int 71, .int 1009, .int 15013]) (.int (k : Int)) = some (.int e) ∧ 0 < e ∧ fdivD (.int x) (.int e) = some (.int (x / e)) := by
      rcases (show k = 0 ∨ k = 1 ∨ k = 2 ∨ k = 3 by omega) with rfl | rfl | rfl | rfl
      · exact ⟨3, rfl, by omega, rfl⟩
      · exact ⟨71, rfl, by omega, rfl⟩
      · exact ⟨1009, rfl, by omega, rfl⟩
      · exact ⟨15013, rfl, by omega, rfl⟩
    obtain ⟨a, ha, hg⟩ := thing_eq s' ns hs' (x / e) (Int.ediv_nonneg hx (by omega))
    refine ⟨a, [.val (.int (k : Int)), s', .val (.int x)], hg, rfl, ?_⟩
    simp only [C_law_key_0, callO, bin2, rdP, hra, consO, valO, lstO, List.getElem?_cons_succ, List.getElem?_cons_zero, Option.bind, Option.map, hv4, hsh4, he, hd, ha, rvD_v])
  rw [List.length_range] at k2
  have q1 : shortO (some (l.map aD)) = some (l.map aD) := short_le _ (by simp; omega)
  refine ⟨l, ?_, by omega, k3⟩
  refine fn_ret rfl ?_
  show g_law_key [s, .val (.int c), .no] = _
  have ht : tupD [.lst (l.map aD)] = some (.tup (l.map aD)) := by simp [tupD]
  have hvl : vals [Sl.val (.lst (l.map aD))] = some [D.lst (l.map aD)] := rfl
  simp only [g_law_key, seqR, setR, retO, bltO, compF, hin, bin2, rdP, consO, valO, lstO, pks, pk, List.getElem?_cons_succ, List.getElem?_cons_zero, List.set_cons_succ, List.set_cons_zero, Option.bind, Option.map, m1, mm, m2, m6, hv, hsh, hj, hv1, hr, q2, k1, q1, ht, lnD]
abbrev sgs : Str := "0123456789abcdefghijklmnopqrstuvwxyz"
theorem find_ok : ∀ c ∈ signs.cps.toList, ∀ d ∈ signs.cps.toList, decide (Txt.find sgs ⟨#[c]⟩ < Txt.find sgs ⟨#[d]⟩) = decide (c < d) := by decide +kernel
theorem walk_eq (s0 s1 : Sl) : ∀ (xs ys : List Nat), (∀ c ∈ xs, c ∈ signs.cps.toList) → (∀ c ∈ ys, c ∈ signs.cps.toList) → ∀ s3 s4 : Sl,
    (∃ s3' s4', forR (bTup 2 (bCons (bName 3) (bCons (bName 4) bNil))) L_law_value_ahead_0 (List.zipWith (fun x y => D.tup [x, y]) (xs.map cS) (ys.map cS)) [s0, s1, .val (.str sgs), s3, s4] = .next [s0, s1, .val (.str sgs), s3', s4'] ∧ decide (xs < ys) = decide (xs.length < ys.length)) ∨
    forR (bTup 2 (bCons (bName 3) (bCons (bName 4) bNil))) L_law_value_ahead_0 (List.zipWith (fun x y => D.tup [x, y]) (xs.map cS) (ys.map cS)) [s0, s1, .val (.str sgs), s3, s4] = .ret (.val (.bl (decide (xs < ys))))
  | [], ys, _, _, s3, s4 => .inl ⟨s3, s4, rfl, by cases ys <;> simp⟩
  | x :: xs, [], _, _, s3, s4 => .inl ⟨s3, s4, rfl, by simp⟩
  | x :: xs, y :: ys, hx, hy, s3, s4 => by
    have hb : bTup 2 (bCons (bName 3) (bCons (bName 4) bNil)) (D.tup [cS x, cS y]) [s0, s1, .val (.str sgs), s3, s4] = some [s0, s1, .val (.str sgs), .val (cS x), .val (cS y)] := rfl
    have hne : neO (cS x) (cS y) = some (.bl (!decide (x = y))) := by
      have : (⟨#[x]⟩ : Str) = ⟨#[y]⟩ ↔ x = y := by simp
      simp [cS]
    simp only [List.map_cons, List.zipWith_cons_cons, forR, hb]
    by_cases e : x = y
    · subst e
      have hl : L_law_value_ahead_0 [s0, s1, .val (.str sgs), .val (cS x), .val (cS x)] = .next [s0, s1, .val (.str sgs), .val (cS x), .val (cS x)] := by
        simp only [L_law_value_ahead_0, seqR, iteR, asB, bin2, rdP, List.getElem?_cons_succ, List.getElem?_cons_zero, Option.bind, hne, decide_true, Bool.not_true]
      rw [hl]
      have hd : decide (x :: xs < x :: ys) = decide (xs < ys) := by
        rw [decide_eq_decide, List.cons_lt_cons_iff]
        exact ⟨fun h => h.elim (fun h => absurd h (Nat.lt_irrefl _)) fun h => h.2, fun h => .inr ⟨rfl, h⟩⟩
      have hn : decide ((x :: xs).length < (x :: ys).length) = decide (xs.length < ys.length) := by simp
      rw [hd, hn]
      exact walk_eq s0 s1 xs ys (fun c hc => hx c (List.mem_cons_of_mem _ hc)) (fun c hc => hy c (List.mem_cons_of_mem _ hc)) (.val (cS x)) (.val (cS x))
    · have hd : decide (x :: xs < y :: ys) = decide (x < y) := by
        rw [decide_eq_decide, List.cons_lt_cons_iff]
        exact ⟨fun h => h.elim id fun h => absurd h.1 e, fun h => .inl h⟩
      refine .inr ?_
      have hf := find_ok x (hx x List.mem_cons_self) y (hy y List.mem_cons_self)
      have lt : ltO (.int (Txt.find sgs ⟨#[x]⟩)) (.int (Txt.find sgs ⟨#[y]⟩)) = some (.bl (decide (x < y))) := by rw [← hf]; rfl
      have f1 : ∀ c, findD sgs [cS c] = some (.int (Txt.find sgs ⟨#[c]⟩)) := fun _ => rfl
      have hl : L_law_value_ahead_0 [s0, s1, .val (.str sgs), .val (cS x), .val (cS y)] = .ret (.val (.bl (decide (x < y)))) := by
        simp only [L_law_value_ahead_0, seqR, iteR, asB, bin2, rdP, rdA, retO, mtO, consO, pks, pk, List.getElem?_cons_succ, List.getElem?_cons_zero, Option.bind, hne, e, decide_false, Bool.not_false, f1, lt]
      rw [hl, hd]
theorem value_ahead_eq (a b : At) (ha : Gd a) (hb : Gd b) : F_law_value_ahead [.val (aD a), .val (aD b)] = some (.val (.bl (ltA a b))) := by
  refine fn_ret rfl ?_
  show S_law_value_ahead_0 [.val (aD a), .val (aD b), .no, .no, .no] = _
  cases a with
  | non => cases b <;> simp [S_law_value_ahead_0, P_law_value_ahead_0, aD, ltA]
  | int i => cases b <;> simp [S_law_value_ahead_0, P_law_value_ahead_0, S_law_value_ahead_1, P_law_value_ahead_1, S_law_value_ahead_2, P_law_value_ahead_2, aD, ltA]
  | str x =>
    cases b with
    | non => simp [S_law_value_ahead_0, P_law_value_ahead_0, aD, ltA]
    | int j => simp [S_law_value_ahead_0, P_law_value_ahead_0, S_law_value_ahead_1, P_law_value_ahead_1, aD, ltA]
    | str y =>
      have h3 : S_law_value_ahead_0 [.val (aD (.str x)), .val (aD (.str y)), .no, .no, .no] = S_law_value_ahead_4 [.val (.str x), .val (.str y), .val (.str sgs), .no, .no] := by
        simp [S_law_value_ahead_0, P_law_value_ahead_0, S_law_value_ahead_1, P_law_value_ahead_1, S_law_value_ahead_2, P_law_value_ahead_2, S_law_value_ahead_3, P_law_value_ahead_3, aD]
      rw [h3]
      have hl : ∀ z : Str, z.length ≤ 12 → lenD [.str z] = some (.int (z.cps.toList.length : Int)) := fun z hz => by
        have hz' : z.cps.size ≤ sizeLine := Nat.le_trans hz (by decide)
        simp [Str.length, hz']
      have hlx := hl x ha.2
      have hly := hl y hb.2
      have z1 : (aD (.str x)) = .str x := rfl
      rcases walk_eq (.val (.str x)) (.val (.str y)) x.cps.toList y.cps.toList ha.1 hb.1 .no .no with ⟨s3, s4, e1, e2⟩ | e1
      · have lt : ltO (.int (x.cps.toList.length : Int)) (.int (y.cps.toList.length : Int)) = some (.bl (decide (x.cps.toList < y.cps.toList))) := by
          rw [e2]
          show some (D.bl (decide ((x.cps.toList.length : Int) < (y.cps.toList.length : Int)))) = _
          congr 2
          rw [decide_eq_decide]
          omega
        simp only [S_law_value_ahead_4, P_law_value_ahead_4, S_law_value_ahead_5, P_law_value_ahead_5, seqR, forO, zipO, zsItems, rdQ, List.getElem?_cons_succ, List.getElem?_cons_zero, Option.bind, e1, retO, bin2, bltO, rdA, consO, pks, pk, hlx, hly, lt, ltA]
      · simp only [S_law_value_ahead_4, P_law_value_ahead_4, seqR, forO, zipO, zsItems, rdQ, List.getElem?_cons_succ, List.getElem?_cons_zero, Option.bind, e1, ltA]
theorem key_walk (s0 s1 : Sl) : ∀ (xs ys : List At), (∀ c ∈ xs, Gd c) → (∀ c ∈ ys, Gd c) → ∀ s3 s4 : Sl,
    (∃ s3' s4', forR (bTup 2 (bCons (bName 2) (bCons (bName 3) bNil))) L_law_ahead_0 (List.zipWith (fun x y => D.tup [x, y]) (xs.map aD) (ys.map aD)) [s0, s1, s3, s4] = .next [s0, s1, s3', s4'] ∧ ltL xs ys = decide (xs.length < ys.length)) ∨
    forR (bTup 2 (bCons (bName 2) (bCons (bName 3) bNil))) L_law_ahead_0 (List.zipWith (fun x y => D.tup [x, y]) (xs.map aD) (ys.map aD)) [s0, s1, s3, s4] = .ret (.val (.bl (ltL xs ys)))
  | [], ys, _, _, s3, s4 => .inl ⟨s3, s4, rfl, by cases ys <;> simp [ltL]⟩
  | x :: xs, [], _, _, s3, s4 => .inl ⟨s3, s4, rfl, by simp [ltL]⟩
  | x :: xs, y :: ys, hx, hy, s3, s4 => by
    have hb : bTup 2 (bCons (bName 2) (bCons (bName 3) bNil)) (D.tup [aD x, aD y]) [s0, s1, s3, s4] = some [s0, s1, .val (aD x), .val (aD y)] := rfl
    have hne := neO_at x y
    simp only [List.map_cons, List.zipWith_cons_cons, forR, hb]
    by_cases e : x = y
    · subst e
      have hl : L_law_ahead_0 [s0, s1, .val (aD x), .val (aD x)] = .next [s0, s1, .val (aD x), .val (aD x)] := by
        simp only [L_law_ahead_0, seqR, iteR, asB, bin2, rdP, List.getElem?_cons_succ, List.getElem?_cons_zero, Option.bind, hne, decide_true, Bool.not_true]
      rw [hl]
      have hd : ltL (x :: xs) (x :: ys) = ltL xs ys := by simp [ltL]
      have hn : decide ((x :: xs).length < (x :: ys).length) = decide (xs.length < ys.length) := by simp
      rw [hd, hn]
      exact key_walk s0 s1 xs ys (fun c hc => hx c (List.mem_cons_of_mem _ hc)) (fun c hc => hy c (List.mem_cons_of_mem _ hc)) (.val (aD x)) (.val (aD x))
    · have hd : ltL (x :: xs) (y :: ys) = ltA x y := by simp [ltL, e]
      refine .inr ?_
      have hv := value_ahead_eq x y (hx x List.mem_cons_self) (hy y List.mem_cons_self)
      have hl : L_law_ahead_0 [s0, s1, .val (aD x), .val (aD y)] = .ret (.val (.bl (ltA x y))) := by
        simp only [L_law_ahead_0, seqR, iteR, asB, bin2, rdP, rdA, retO, callO, consO, List.getElem?_cons_succ, List.getElem?_cons_zero, Option.bind, Option.map, hne, e, decide_false, Bool.not_false, hv, rvD_v]
      rw [hl, hd]
theorem ahead_eq (l m : List At) (hl : ∀ a ∈ l, Gd a) (hm : ∀ a ∈ m, Gd a) (h1 : l.length ≤ 1000) (h2 : m.length ≤ 1000) : F_law_ahead [.val (lnD l), .val (lnD m)] = some (.val (.bl (ltL l m))) := by
  refine fn_ret rfl ?_
  show g_law_ahead [.val (lnD l), .val (lnD m), .no, .no] = _
  have len : ∀ l : List At, lenD [lnD l] = some (.int (l.length : Int)) := fun l => by simp [lnD]
  have zs : ∀ l : List At, zsItems (lnD l) = some (l.map aD) := fun _ => rfl
  rcases key_walk (.val (lnD l)) (.val (lnD m)) l m hl hm .no .no with ⟨s3, s4, e1, e2⟩ | e1
  · have lt : ltO (.int (l.length : Int)) (.int (m.length : Int)) = some (.bl (ltL l m)) := by
      rw [e2]
      show some (D.bl (decide ((l.length : Int) < (m.length : Int)))) = _
      congr 2
      rw [decide_eq_decide]
      omega
    simp only [g_law_ahead, seqR, forO, zipO, zs, rdQ, List.getElem?_cons_succ, List.getElem?_cons_zero, Option.bind, e1, retO, bin2, bltO, rdA, consO, pks, pk, len, lt]
  · simp only [g_law_ahead, seqR, forO, zipO, zs, rdQ, List.getElem?_cons_succ, List.getElem?_cons_zero, Option.bind, e1]
theorem before_eq (l m : List At) (h1 : l.length ≤ 1000) (h2 : m.length ≤ 1000) : F_key_before [.val (lnD l), .val (lnD m)] = some (.val (.bl (ltL l m))) := by
  refine fn_ret rfl ?_
  show g_key_before [.val (lnD l), .val (lnD m)] = _
  have e1 := key_rank_eq l h1
  have e2 := key_rank_eq m h2
  have lt : ltO (.tup (l.map rk2)) (.tup (m.map rk2)) = some (.bl (ltL l m)) := by
    have := rk2s_lt 3 l m
    show (ltDs (ltN 5) (l.map rk2) (m.map rk2)).map D.bl = _
    rw [this]; rfl
  simp only [g_key_before, seqR, retO, bin2, callO, rdA, consO, List.getElem?_cons_succ, List.getElem?_cons_zero, Option.bind, Option.map, e1, e2, rvD_v, lt]
theorem is_key_eq (l : List At) (h : l.length ≤ 1000) : F_law_is_key [.val (lnD l)] = some (.val (.bl true)) := by
  have hz : l.length ≤ sizeLine := Nat.le_trans h (by decide)
  have hC : ∀ a : At, C_law_is_key_0 [.val (aD a)] = some (.bl true) := fun a => by
    have h2 : (2 : Nat) ≤ sizeLine := by decide
    cases a <;> simp [C_law_is_key_0, aD, tysOf, h2]
  have hc := compL_map (b := bName 0) (e := C_law_is_key_0) (ρ := [.no]) aD (fun _ => D.bl true) l fun a _ => ⟨[.val (aD a)], rfl, hC a⟩
  have ha : allD [.lst (l.map fun _ => D.bl true)] = some (.bl true) := by
    have e : (l.map fun _ => D.bl true) = (l.map fun _ => true).map D.bl := by simp
    rw [e]
    simp only [allD, asBs_eq, Option.map_some]
    congr 2
    simp
  have hin : compIn 1 [] [.val (lnD l)] = [.no] := rfl
  have q1 : shortO (some (l.map aD)) = some (l.map aD) := short_le _ (by simp; omega)
  have q2 : shortO (some (l.map fun _ => D.bl true)) = some (l.map fun _ => D.bl true) := short_le _ (by simp; omega)
  have i1 : isD [lnD l, .ty "tuple"] = some (.bl true) := by simp [lnD]
  have sq : seqItems (lnD l) = some (l.map aD) := rfl
  refine fn_ret rfl ?_
  show g_law_is_key [.val (lnD l)] = _
  simp only [g_law_is_key, seqR, iteR, notO, truD, bltO, rdA, rdQ, consO, valO, pks, pk, retO, lstO, compF, hin, sq, List.getElem?_cons_zero, Option.bind, Option.map, i1, Bool.not_true, q1, hc, q2, ha]
theorem in_lns (l : List At) (ls : List (List At)) (neg : Bool) : inD neg (lnD l) (.lst (ls.map lnD)) = some (.bl (if neg then !decide (l ∈ ls) else decide (l ∈ ls))) := by
  have o1 := okD_lnD 11 l
  have o2 : (ls.map lnD).all (okD 12) = true := by
    rw [List.all_map, List.all_eq_true]
    exact fun m _ => okD_lnD 11 m
  have o3 : inDs (lnD l) (ls.map lnD) = decide (l ∈ ls) := by
    unfold inDs
    rw [List.any_map, Bool.eq_iff_iff]
    simp only [List.any_eq_true, Function.comp, decide_eq_true_eq]
    have eq : ∀ m : List At, eqD (lnD m) (lnD l) = decide (m = l) := fun m => by simp only [lnD, eqD, eqDs_aD]
    constructor
    · rintro ⟨m, hm, e⟩
      rw [eq, decide_eq_true_eq] at e
      rw [← e]; exact hm
    · intro hm
      exact ⟨l, hm, by rw [eq]; simp⟩
  simp only [inD, deep_eq, o1, o2, o3, Bool.and_self, if_true]
theorem good_run (s : Sl) (fs es : List (List At)) (hs : s = .val (.lst (fs.map lnD)) ∨ s = .lent (fs.map lnD)) (hp : fs.Pairwise fun a b => ltL a b = true) (hm : ∀ a ∈ fs, a ∈ es) (hg : ∀ a ∈ fs, a.length ≤ 1000 ∧ ∀ x ∈ a, Gd x) : ∀ (ks : List Nat) (s2 : Sl), (∀ k ∈ ks, k < fs.length) → ∃ s2', forR (bName 2) L_law_good_0 (ks.map fun k : Nat => D.int (k : Int)) [s, .val (.lst (es.map lnD)), s2] = .next [s, .val (.lst (es.map lnD)), s2']
  | [], s2, _ => ⟨s2, rfl⟩
  | k :: ks, s2, hk => by
    have hk1 := hk k List.mem_cons_self
    obtain ⟨s2', e⟩ := good_run s fs es hs hp hm hg ks (.val (.int (k : Int))) fun i hi => hk i (List.mem_cons_of_mem _ hi)
    refine ⟨s2', ?_⟩
    have hmk := List.getElem_mem hk1
    have x1 : ixD (.lst (fs.map lnD)) (.int (k : Int)) = some (lnD fs[k]) := atI_nat (by simp [hk1])
    have x2 := is_key_eq fs[k] (hg _ hmk).1
    have x3 := in_lns fs[k] es true
    rw [decide_eq_true (hm _ hmk)] at x3
    simp only [if_true, Bool.not_true] at x3
    have hrp : rdP [s, .val (.lst (es.map lnD)), .val (.int (k : Int))] 0 = some (.lst (fs.map lnD)) := by rcases hs with rfl | rfl <;> rfl
    have hb : L_law_good_0 [s, .val (.lst (es.map lnD)), .val (.int (k : Int))] = .next [s, .val (.lst (es.map lnD)), .val (.int (k : Int))] := by
      have r1 : rdP [s, .val (.lst (es.map lnD)), .val (.int (k : Int))] 1 = some (.lst (es.map lnD)) := rfl
      have r2 : rdP [s, .val (.lst (es.map lnD)), .val (.int (k : Int))] 2 = some (.int (k : Int)) := rfl
      by_cases h0 : 0 < k
      · have g : gtD (.int (k : Int)) (.int 0) = some (.bl true) := by show some (D.bl (decide (0 < (k : Int)))) = _; rw [decide_eq_true (by omega)]
        have x4 : ixD (.lst (fs.map lnD)) (.int ((k : Int) - 1)) = some (lnD (fs[k - 1]'(by omega))) := by
          show atI (fs.map lnD) ((k : Int) - 1) = _
          rw [show ((k : Int) - 1) = ((k - 1 : Nat) : Int) by omega]
          exact atI_nat (by simp [show k - 1 < fs.length by omega])
        have hk2 : fs[k - 1]'(by omega) ∈ fs := List.getElem_mem _
        have x5 := ahead_eq (fs[k - 1]'(by omega)) fs[k] (hg _ hk2).2 (hg _ hmk).2 (hg _ hk2).1 (hg _ hmk).1
        rw [List.pairwise_iff_getElem.mp hp (k - 1) k (by omega) hk1 (by omega)] at x5
        have a1 : subD (.int (k : Int)) (.int 1) = some (.int ((k : Int) - 1)) := rfl
        generalize lnD (fs[k - 1]'(by omega)) = A0 at *
        generalize lnD fs[k] = A1 at *
        simp only [L_law_good_0, seqR, iteR, orB, andO, notO, truD, asB, bin2, callO, consO, valO, hrp, r1, r2, Option.bind, Option.map, x1, x2, x3, rvD_v, Bool.not_true, g, a1, x4, x5]
      · have g : gtD (.int (k : Int)) (.int 0) = some (.bl false) := by show some (D.bl (decide (0 < (k : Int)))) = _; rw [decide_eq_false (by omega)]
        generalize lnD fs[k] = A1 at *
        simp only [L_law_good_0, seqR, iteR, orB, andO, notO, truD, asB, bin2, callO, consO, valO, hrp, r1, r2, Option.bind, Option.map, x1, x2, x3, rvD_v, Bool.not_true, g]
    simp only [List.map_cons, forR, bName, List.set_cons_succ, List.set_cons_zero, hb]
    exact e
theorem good_eq (s : Sl) (fs es : List (List At)) (hs : s = .val (.lst (fs.map lnD)) ∨ s = .lent (fs.map lnD)) (hp : fs.Pairwise fun a b => ltL a b = true) (hm : ∀ a, a ∈ fs ↔ a ∈ es) (hg : ∀ a ∈ fs, a.length ≤ 1000 ∧ ∀ x ∈ a, Gd x) (h1 : fs.length ≤ 1000) (h2 : es.length ≤ 1000) : F_law_good [s, .val (.lst (es.map lnD))] = some (.val (.bl true)) := by
  obtain ⟨s2, er⟩ := good_run s fs es hs hp (fun a h => (hm a).mp h) hg (List.range fs.length) .no fun k hk => List.mem_range.mp hk
  have hr := rng1_nat fs.length (by omega)
  have f1 : isD [.lst (fs.map lnD), .ty "list"] = some (.bl true) := by simp
  have f2 : lenD [.lst (fs.map lnD)] = some (.int (fs.length : Int)) := by simp
  have hv : vals [Sl.val (.int (fs.length : Int))] = some [.int (fs.length : Int)] := rfl
  obtain ⟨s', hs', hin⟩ : ∃ s', (s' = .val (.lst (fs.map lnD)) ∨ s' = .lent (fs.map lnD)) ∧ compIn 1 [0] [s, .val (.lst (es.map lnD)), s2] = [.no, s'] := by
    rcases hs with rfl | rfl
    · exact ⟨_, .inl rfl, rfl⟩
    · exact ⟨_, .inr rfl, rfl⟩
  have hc := compL_map (b := bName 0) (e := C_law_good_0) (ρ := [.no, s']) lnD (fun _ => D.bl true) es fun m hm' => ⟨[.val (lnD m), s'], rfl, by
    have x := in_lns m fs false
    rw [decide_eq_true ((hm m).mpr hm')] at x
    simp only [Bool.false_eq_true, if_false] at x
    have r0 : rdP [.val (lnD m), s'] 0 = some (lnD m) := rfl
    have r1 : rdP [.val (lnD m), s'] 1 = some (.lst (fs.map lnD)) := by rcases hs' with rfl | rfl <;> rfl
    simp only [C_law_good_0, bin2, r0, r1, Option.bind, x]⟩
  have ha : allD [.lst (es.map fun _ => D.bl true)] = some (.bl true) := by
    have e : (es.map fun _ => D.bl true) = (es.map fun _ => true).map D.bl := by simp
    rw [e]
    simp only [allD, asBs_eq, Option.map_some]
    congr 2
    simp
  have q1 : shortO (some (es.map lnD)) = some (es.map lnD) := short_le _ (by simp; omega)
  have q2 : shortO (some (es.map fun _ => D.bl true)) = some (es.map fun _ => D.bl true) := short_le _ (by simp; omega)
  have sq : seqItems (.lst (es.map lnD)) = some (es.map lnD) := rfl
  refine fn_ret rfl ?_
  show g_law_good [s, .val (.lst (es.map lnD)), .no] = _
  generalize (List.range fs.length).map (fun (k : Nat) => D.int (k : Int)) = RR at *
  generalize (es.map fun _ => D.bl true) = T at *
  generalize fs.map lnD = F at *
  generalize es.map lnD = G at *
  generalize (fs.length : Int) = N at *
  have r1 : rdQ [s, .val (.lst G), s2] 1 = some (.lst G) := rfl
  rcases hs with rfl | rfl <;> simp only [g_law_good, seqR, iteR, notO, truD, forO, retO, bltO, rdA, consO, valO, pks, pk, lstO, compF, hin, r1, sq, List.getElem?_cons_succ, List.getElem?_cons_zero, Option.bind, Option.map, f1, f2, hv, hr, er, Bool.not_true, q1, hc, q2, ha]
theorem keys_run (s : Sl) (ns : List Int) (hs : s = .val (.lst (ns.map D.int)) ∨ s = .lent (ns.map D.int)) : ∀ (ks : List Nat) (acc : List (List At)) (x : Int) (s3 : Sl), acc.length + ks.length ≤ 1000 → (∀ l ∈ acc, l.length ≤ 4 ∧ ∀ a ∈ l, Gd a) →
    ∃ (acc' : List (List At)) (s2' s3' : Sl), forR (bName 3) L_law_keys_0 (ks.map fun k : Nat => D.int (k : Int)) [s, .own (acc.map lnD), .val (.int x), s3] = .next [s, .own (acc'.map lnD), s2', s3'] ∧ acc'.length = acc.length + ks.length ∧ ∀ l ∈ acc', l.length ≤ 4 ∧ ∀ a ∈ l, Gd a
  | [], acc, x, s3, _, h => ⟨acc, _, s3, rfl, by simp, h⟩
  | k :: ks, acc, x, s3, hz, h => by
    obtain ⟨l, e1, l4, lg⟩ := key_eq s ns hs ((x * 48271 + 11 * (k : Int) + 1) % 2147483647)
    simp only [List.length_cons] at hz
    obtain ⟨acc', s2', s3', e2, e3, e4⟩ := keys_run s ns hs ks (acc ++ [l]) ((x * 48271 + 11 * (k : Int) + 1) % 2147483647) (.val (.int (k : Int))) (by simp; omega) (fun m hm => by
      rcases List.mem_append.mp hm with q | q
      · exact h m q
      · rw [List.mem_singleton.mp q]; exact ⟨l4, lg⟩)
    refine ⟨acc', s2', s3', ?_, by rw [e3]; simp; omega, e4⟩
    have t1 : mulD (.int x) (.int 48271) = some (.int (x * 48271)) := by
      show (if CMul x 48271 then some (D.int (x * 48271)) else none) = _
      rw [if_pos (by right; decide)]
    have t2 : mulD (.int 11) (.int (k : Int)) = some (.int (11 * (k : Int))) := by
      show (if CMul 11 (k : Int) then some (D.int (11 * (k : Int))) else none) = _
      rw [if_pos (by left; decide)]
    have t3 : addD (.int (x * 48271)) (.int (11 * (k : Int))) = some (.int (x * 48271 + 11 * (k : Int))) := rfl
    have t4 : addD (.int (x * 48271 + 11 * (k : Int))) (.int 1) = some (.int (x * 48271 + 11 * (k : Int) + 1)) := rfl
    have t5 : modD (.int (x * 48271 + 11 * (k : Int) + 1)) (.int 2147483647) = some (.int ((x * 48271 + 11 * (k : Int) + 1) % 2147483647)) := rfl
    generalize (x * 48271 + 11 * (k : Int) + 1) % 2147483647 = y at *
    generalize x * 48271 + 11 * (k : Int) + 1 = y1 at *
    generalize x * 48271 + 11 * (k : Int) = y2 at *
    generalize x * 48271 = y3 at *
    generalize 11 * (k : Int) = y4 at *
    have hzz : (acc.map lnD).length < sizeLine := Nat.lt_of_lt_of_le (show (acc.map lnD).length < 10000 by simp; omega) (by decide)
    have hra : ∀ r, rdA (s :: r) 0 = some s := fun r => by rcases hs with rfl | rfl <;> rfl
    have hb : L_law_keys_0 [s, .own (acc.map lnD), .val (.int x), .val (.int (k : Int))] = .next [s, .own ((acc ++ [l]).map lnD), .val (.int y), .val (.int (k : Int))] := by
      have r2 : ∀ (a b c d : Sl), rdA [a, b, c, d] 2 = rdA [c] 0 := fun _ _ _ _ => rfl
      have r3 : ∀ d, rdA [.val d] 0 = some (.val d) := fun _ => rfl
      rw [List.map_append]
      simp only [L_law_keys_0, seqR, setR, bin2, rdP, rdO, hra, r2, r3, callO, consO, List.getElem?_cons_succ, List.getElem?_cons_zero, List.set_cons_succ, List.set_cons_zero, Option.bind, Option.map, t1, t2, t3, t4, t5, e1, rvD_v, appR, hzz, if_true, List.map_cons, List.map_nil]
    simp only [List.map_cons, forR, bName, List.set_cons_succ, List.set_cons_zero, hb]
    exact e2
theorem keys_eq (ns : List Int) : ∃ (ks : List (List At)) (r : Rv), F_law_keys [.val (.lst (ns.map D.int))] = some r ∧ rvD r = .lst (ks.map lnD) ∧ ks.length ≤ 200 ∧ ∀ l ∈ ks, l.length ≤ 4 ∧ ∀ a ∈ l, Gd a := by
  have h0 := cell_at_eq (.val (.lst (ns.map D.int))) ns (.inl rfl) 0 (by omega)
  have h4 := cell_at_eq (.val (.lst (ns.map D.int))) ns (.inl rfl) 4 (by omega)
  generalize ns.getD (Int.toNat 0) 0 = c0 at *
  generalize ns.getD (Int.toNat 4) 0 = c4 at *
  have hcut : cutD (ns.map D.int) (some 6) (some 56) = ((ns.drop 6).take 50).map D.int := by rw [cutD_map, cut_mid _ _ _ (by omega) (by omega)]; rfl
  obtain ⟨ks, k1, k2, k3⟩ := compL_ex (b := bName 0) (e := C_law_keys_0) (ρ := [.no, .val (.lst (ns.map D.int))]) D.int lnD (fun l => l.length ≤ 4 ∧ ∀ a ∈ l, Gd a) ((ns.drop 6).take 50) (fun c _ => by
    obtain ⟨l, e, p⟩ := key_eq (.val (.lst (ns.map D.int))) ns (.inl rfl) c
    refine ⟨l, [.val (.int c), .val (.lst (ns.map D.int))], p, rfl, ?_⟩
    simp only [C_law_keys_0, callO, consO, rdA, List.getElem?_cons_succ, List.getElem?_cons_zero, Option.bind, Option.map, e, rvD_v])
  have hle : ((ns.drop 6).take 50).length ≤ 50 := by simp; omega
  have m1 : modD (.int c0) (.int 2147483647) = some (.int (c0 % 2147483647)) := rfl
  have m2 : modD (.int c0) (.int 51) = some (.int (c0 % 51)) := rfl
  have hr := rng1_int (c0 % 51) (by omega) (by omega)
  obtain ⟨acc, s2, s3, a1, a2, a3⟩ := keys_run (.val (.lst (ns.map D.int))) ns (.inl rfl) (List.range (c0 % 51).toNat) ks (c0 % 2147483647) .no (by simp; omega) k3
  rw [List.length_range] at a2
  have e2 : modD (.int c4) (.int 2) = some (.int (c4 % 2)) := rfl
  have hv1 : ∀ y : Int, vals [Sl.val (.int y)] = some [D.int y] := fun _ => rfl
  have q1 : shortO (some (((ns.drop 6).take 50).map D.int)) = some (((ns.drop 6).take 50).map D.int) := short_le _ (by simp; omega)
  have q2 : shortO (some (ks.map lnD)) = some (ks.map lnD) := short_le _ (by simp; omega)
  have q3 : shortO (some ((List.range (c0 % 51).toNat).map fun k : Nat => D.int (k : Int))) = some ((List.range (c0 % 51).toNat).map fun k : Nat => D.int (k : Int)) := short_le _ (by simp; omega)
  have sl : slD (.lst (ns.map D.int)) (some 6) (some 56) = some (.lst (((ns.drop 6).take 50).map D.int)) := by
    show some (D.lst (cutD (ns.map D.int) (some 6) (some 56))) = _
    rw [hcut]
  have s2' : S_law_keys_0 [.val (.lst (ns.map D.int)), .no, .no, .no] = S_law_keys_3 [.val (.lst (ns.map D.int)), .own (acc.map lnD), s2, s3] := by
    have hin : compIn 1 [0] [.val (.lst (ns.map D.int)), .no, .no, .no] = [.no, .val (.lst (ns.map D.int))] := rfl
    have sq : seqItems (.lst (((ns.drop 6).take 50).map D.int)) = some (((ns.drop 6).take 50).map D.int) := rfl
    generalize ((ns.drop 6).take 50).map D.int = G at *
    generalize ns.map D.int = N at *
    generalize (List.range (c0 % 51).toNat).map (fun k : Nat => D.int (k : Int)) = RR at *
    generalize ks.map lnD = KK at *
    simp only [S_law_keys_0, P_law_keys_0, S_law_keys_1, P_law_keys_1, S_law_keys_2, P_law_keys_2, seqR, setR, setRF, forO, compF, sl3, asI, hin, bin2, rdP, rdA, callO, consO, valO, List.getElem?_cons_succ, List.getElem?_cons_zero, List.set_cons_succ, List.set_cons_zero, Option.bind, Option.map, sl, sq, q1, k1, q2, h0, rvD_v, m1, m2, hv1, hr, a1]
  by_cases h : c4 % 2 = 1
  · have e1 : eqO (.int (c4 % 2)) (.int 1) = some (.bl true) := by simp [h]
    have d1 : fdivD (.int c4) (.int 2) = some (.int (c4 / 2)) := rfl
    have d2 : modD (.int (c4 / 2)) (.int 7) = some (.int (c4 / 2 % 7)) := rfl
    have hc1 : cutD (acc.map lnD) (some (c4 / 2 % 7)) none = (acc.drop (c4 / 2 % 7).toNat).map lnD := by rw [cutD_map, cut_from _ _ (by omega)]
    have hc2 : cutD ((acc.drop (c4 / 2 % 7).toNat).map lnD) none (some 9) = ((acc.drop (c4 / 2 % 7).toNat).take 9).map lnD := by rw [cutD_map, cut_to _ _ (by omega)]; rfl
    have sl1 : slD (.lst (acc.map lnD)) (some (c4 / 2 % 7)) none = some (.lst ((acc.drop (c4 / 2 % 7).toNat).map lnD)) := by
      show some (D.lst (cutD (acc.map lnD) (some (c4 / 2 % 7)) none)) = _
      rw [hc1]
    have sl2 : slD (.lst ((acc.drop (c4 / 2 % 7).toNat).map lnD)) none (some 9) = some (.lst (((acc.drop (c4 / 2 % 7).toNat).take 9).map lnD)) := by
      show some (D.lst (cutD ((acc.drop (c4 / 2 % 7).toNat).map lnD) none (some 9))) = _
      rw [hc2]
    have hsub : ∀ l ∈ (acc.drop (c4 / 2 % 7).toNat).take 9, l ∈ acc := fun l hl => List.mem_of_mem_drop (List.mem_of_mem_take hl)
    have h9 : ((acc.drop (c4 / 2 % 7).toNat).take 9).length ≤ 9 := by simp; omega
    generalize (acc.drop (c4 / 2 % 7).toNat).take 9 = tl at *
    generalize (acc.drop (c4 / 2 % 7).toNat).map lnD = dr at *
    have ad : addD (.lst (acc.map lnD)) (.lst (tl.map lnD)) = some (.lst ((acc ++ tl).map lnD)) := by
      rw [addD_lst _ _ (by simp; omega), List.map_append]
    refine ⟨acc ++ tl, .val (.lst ((acc ++ tl).map lnD)), ?_, rfl, by simp; omega, fun l hl => ?_⟩
    · refine fn_ret rfl ?_
      show S_law_keys_0 [.val (.lst (ns.map D.int)), .no, .no, .no] = _
      rw [s2']
      generalize ns.map D.int = N at *
      generalize (acc ++ tl).map lnD = AA at *
      generalize acc.map lnD = A0 at *
      generalize tl.map lnD = T0 at *
      simp only [S_law_keys_3, P_law_keys_3, S_law_keys_4, P_law_keys_4, seqR, iteR, setR, altR, isOwn, retO, rdV, asB, asI, bin2, rdP, rdA, callO, consO, valO, sl3, List.getElem?_cons_succ, List.getElem?_cons_zero, List.set_cons_succ, List.set_cons_zero, Option.bind, Option.map, h4, rvD_v, e2, e1, d1, d2, sl1, sl2, ad, Bool.false_eq_true, if_false]
    · rcases List.mem_append.mp hl with q | q
      · exact a3 l q
      · exact a3 l (hsub l q)
  · have e1 : eqO (.int (c4 % 2)) (.int 1) = some (.bl false) := by simp [h]
    refine ⟨acc, .own (acc.map lnD), ?_, rfl, by omega, a3⟩
    refine fn_ret rfl ?_
    show S_law_keys_0 [.val (.lst (ns.map D.int)), .no, .no, .no] = _
    rw [s2']
    generalize ns.map D.int = N at *
    generalize acc.map lnD = A0 at *
    simp only [S_law_keys_3, P_law_keys_3, S_law_keys_4, P_law_keys_4, seqR, iteR, altR, isOwn, retF, rdO, asB, bin2, rdA, callO, consO, valO, List.getElem?_cons_succ, List.getElem?_cons_zero, Option.bind, Option.map, h4, rvD_v, e2, e1, if_true]
theorem pair_run (s0 s1 s2 s3 : Sl) : ∀ (ps : List (List At × List At)) (s4 s5 s6 s7 s8 s9 : Sl), (∀ p ∈ ps, (p.1.length ≤ 4 ∧ ∀ a ∈ p.1, Gd a) ∧ p.2.length ≤ 4 ∧ ∀ a ∈ p.2, Gd a) →
    ∃ s4' s5' s6', forR (bTup 2 (bCons (bName 4) (bCons (bName 5) bNil))) L_law_0 (ps.map fun p => D.tup [lnD p.1, lnD p.2]) [s0, s1, s2, s3, s4, s5, s6, s7, s8, s9] = .next [s0, s1, s2, s3, s4', s5', s6', s7, s8, s9]
  | [], s4, s5, s6, s7, s8, s9, _ => ⟨s4, s5, s6, rfl⟩
  | p :: ps, s4, s5, s6, s7, s8, s9, h => by
    obtain ⟨⟨h1, h2⟩, h3, h4⟩ := h p List.mem_cons_self
    obtain ⟨s4', s5', s6', e⟩ := pair_run s0 s1 s2 s3 ps (.val (lnD p.1)) (.val (lnD p.2)) (.val (.bl (ltL p.1 p.2))) s7 s8 s9 fun q hq => h q (List.mem_cons_of_mem _ hq)
    refine ⟨s4', s5', s6', ?_⟩
    have hb : bTup 2 (bCons (bName 4) (bCons (bName 5) bNil)) (D.tup [lnD p.1, lnD p.2]) [s0, s1, s2, s3, s4, s5, s6, s7, s8, s9] = some [s0, s1, s2, s3, .val (lnD p.1), .val (lnD p.2), s6, s7, s8, s9] := rfl
    have x1 := before_eq p.1 p.2 (by omega) (by omega)
    have x2 := ahead_eq p.1 p.2 h2 h4 (by omega) (by omega)
    have x3 : isD [.bl (ltL p.1 p.2), .ty "bool"] = some (.bl true) := by simp
    have x4 : neO (.bl (ltL p.1 p.2)) (.bl (ltL p.1 p.2)) = some (.bl false) := by simp
    have hl : ∀ (A0 A1 : D) (B : Bool), F_key_before [.val A0, .val A1] = some (.val (.bl B)) → F_law_ahead [.val A0, .val A1] = some (.val (.bl B)) → isD [.bl B, .ty "bool"] = some (.bl true) → neO (.bl B) (.bl B) = some (.bl false) → L_law_0 [s0, s1, s2, s3, .val A0, .val A1, s6, s7, s8, s9] = .next [s0, s1, s2, s3, .val A0, .val A1, .val (.bl B), s7, s8, s9] := fun A0 A1 B x1 x2 x3 x4 => by
      simp only [L_law_0, seqR, setR, iteR, orB, notO, truD, asB, bin2, bltO, callO, rdP, rdA, consO, valO, pks, pk, List.getElem?_cons_succ, List.getElem?_cons_zero, List.set_cons_succ, List.set_cons_zero, Option.bind, Option.map, x1, x2, x3, x4, rvD_v, Bool.not_true]
    simp only [List.map_cons, forR, hb, hl _ _ _ x1 x2 x3 x4]
    exact e
theorem okD_lns (a : List (List At)) : okD 12 (.lst (a.map lnD)) = true := by
  show (a.map lnD).all (okD 11) = true
  rw [List.all_map, List.all_eq_true]
  exact fun m _ => okD_lnD 10 m
theorem eqDs_lns : ∀ a b : List (List At), eqDs (a.map lnD) (b.map lnD) = decide (a = b)
  | [], [] => by simp
  | [], _ :: _ => by simp
  | _ :: _, [] => by simp
  | x :: a, y :: b => by
    have ih := eqDs_lns a b
    have e : eqD (lnD x) (lnD y) = decide (x = y) := by simp only [lnD, eqD, eqDs_aD]
    rw [Bool.eq_iff_iff]
    simp [e, ih]
theorem eqO_lns (a b : List (List At)) : eqO (.lst (a.map lnD)) (.lst (b.map lnD)) = some (.bl (decide (a = b))) := by
  have h1 := okD_lns a
  have h2 := okD_lns b
  have h3 := eqDs_lns a b
  simp only [eqO, deep_eq, h1, h2, eqD_ll, h3, Bool.and_self, if_true]
theorem neO_lns (a b : List (List At)) : neO (.lst (a.map lnD)) (.lst (b.map lnD)) = some (.bl (!decide (a = b))) := by
  have h1 := okD_lns a
  have h2 := okD_lns b
  have h3 := eqDs_lns a b
  simp only [neO, deep_eq, h1, h2, eqD_ll, h3, Bool.and_self, if_true]
theorem ded_same {ls ms : List (List At)} (h : ∀ l, l ∈ ls ↔ l ∈ ms) : ded none (srtG ltL ls) = ded none (srtG ltL ms) := by
  have st : ∀ ls, (ded none (srtG ltL ls)).Pairwise fun a b => ltL a b = true := fun ls => (ded_strict TO_L _ none (srtG_pair TO_L ls) fun _ hq => nomatch hq).1
  have mem : ∀ ls l, l ∈ ded none (srtG ltL ls) ↔ l ∈ ls := fun ls l => (ded_mem _ l).trans (srtG_perm ltL ls).mem_iff
  have nd : ∀ ls, (ded none (srtG ltL ls)).Nodup := fun ls => (st ls).imp fun {a b} hab e => by subst e; rw [TO_L.irr a] at hab; cases hab
  refine List.Perm.eq_of_pairwise (le := fun a b => ltL a b = true) (fun a b _ _ h1 h2 => ?_) (st ls) (st ms) ?_
  · rw [TO_L.asym a b h1] at h2; cases h2
  · exact (List.perm_ext_iff_of_nodup (nd ls) (nd ms)).mpr fun l => by rw [mem, mem, h l]
theorem law_true (ns : List Int) (hl : ns.length ≤ 63) : F_law [.val (.lst (ns.map D.int))] = some (.val (.bl true)) := by
  obtain ⟨ks, r, hk, hkr, hk2, hkg⟩ := keys_eq ns
  have h4 := cell_at_eq (.val (.lst (ns.map D.int))) ns (.inl rfl) 4 (by omega)
  have h5 := cell_at_eq (.val (.lst (ns.map D.int))) ns (.inl rfl) 5 (by omega)
  generalize ns.getD (Int.toNat 4) 0 = c4 at *
  generalize ns.getD (Int.toNat 5) 0 = c5 at *
  obtain ⟨one, o1, o4, og⟩ := key_eq (.val (.lst (ns.map D.int))) ns (.inl rfl) c5
  obtain ⟨two, t1, t4, tg⟩ := key_eq (.val (.lst (ns.map D.int))) ns (.inl rfl) (c5 / 5)
  have m5 : modD (.int c4) (.int 5) = some (.int (c4 % 5)) := rfl
  have d5 : fdivD (.int c5) (.int 5) = some (.int (c5 / 5)) := rfl
  have sl1 : slD (lnD one) none (some (c4 % 5)) = some (lnD (one.take (c4 % 5).toNat)) := by
    show some (D.tup (cutD (one.map aD) none (some (c4 % 5)))) = _
    rw [cutD_map, cut_to _ _ (by omega)]; rfl
  have ad : addD (lnD (one.take (c4 % 5).toNat)) (lnD two) = some (lnD (one.take (c4 % 5).toNat ++ two)) := by
    show addD (.tup _) (.tup _) = _
    rw [addD_tup _ _ (by simp; omega), ← List.map_append]; rfl
  have sl2 : slD (lnD (one.take (c4 % 5).toNat ++ two)) none (some 4) = some (lnD ((one.take (c4 % 5).toNat ++ two).take 4)) := by
    show some (D.tup (cutD ((one.take (c4 % 5).toNat ++ two).map aD) none (some 4))) = _
    rw [cutD_map, cut_to _ _ (by omega)]; rfl
  have oth : ((one.take (c4 % 5).toNat ++ two).take 4).length ≤ 4 ∧ ∀ a ∈ (one.take (c4 % 5).toNat ++ two).take 4, Gd a := by
    refine ⟨by simp; omega, fun a ha => ?_⟩
    rcases List.mem_append.mp (List.mem_of_mem_take ha) with q | q
    · exact og a (List.mem_of_mem_take q)
    · exact tg a q
  generalize (one.take (c4 % 5).toNat ++ two).take 4 = other at *
  generalize one.take (c4 % 5).toNat ++ two = mid at *
  generalize one.take (c4 % 5).toNat = tk at *
  have kg : ∀ l ∈ ks, l.length ≤ 1000 := fun l h => by have := (hkg l h).1; omega
  obtain ⟨fs, hfs⟩ : ∃ fs, fs = ded none (srtG ltL ks) := ⟨_, rfl⟩
  have fmem : ∀ l, l ∈ fs ↔ l ∈ ks := fun l => by rw [hfs]; exact (ded_mem _ l).trans (srtG_perm ltL ks).mem_iff
  have flen : fs.length ≤ 200 := by rw [hfs]; exact Nat.le_trans (ded_len _ _) (by rw [(srtG_perm ltL ks).length_eq]; exact hk2)
  have fst : fs.Pairwise fun a b => ltL a b = true := by rw [hfs]; exact (ded_strict TO_L _ none (srtG_pair TO_L ks) fun _ hq => nomatch hq).1
  have fg : ∀ a ∈ fs, a.length ≤ 1000 ∧ ∀ x ∈ a, Gd x := fun a ha => ⟨kg a ((fmem a).mp ha), (hkg a ((fmem a).mp ha)).2⟩
  have i1 := in_order_eq (.lent (ks.map lnD)) ks (.inr rfl) (by omega) kg
  rw [← hfs] at i1
  have i2 := in_order_eq (.lent (ks.reverse.map lnD)) ks.reverse (.inr rfl) (by simp; omega) (fun l h => kg l (List.mem_reverse.mp h))
  rw [ded_same (ms := ks) (fun l => List.mem_reverse), ← hfs] at i2
  have i3 := in_order_eq (.val (.lst (fs.map lnD))) fs (.inl rfl) (by omega) (fun l h => (fg l h).1)
  rw [ded_same (ms := ks) fmem, ← hfs] at i3
  have gd := good_eq (.lent (fs.map lnD)) fs ks (.inr rfl) fst fmem fg (by omega) (by omega)
  have n1 := neO_lns ks ks
  simp only [decide_true, Bool.not_true] at n1
  have e1 := eqO_lns fs fs
  simp only [decide_true] at e1
  obtain ⟨s4, s5, s6, er⟩ := pair_run (.val (.lst (ns.map D.int))) (.val (.lst (ks.map lnD))) (.val (lnD one)) (.val (lnD other)) [(one, other), (other, one), (one, one)] .no .no .no .no .no .no (fun p hp => by
    simp only [List.mem_cons, List.not_mem_nil, or_false] at hp
    rcases hp with rfl | rfl | rfl
    · exact ⟨⟨o4, og⟩, oth⟩
    · exact ⟨oth, o4, og⟩
    · exact ⟨⟨o4, og⟩, o4, og⟩)
  simp only [List.map_cons, List.map_nil] at er
  have lk : lstD [.lst (ks.map lnD)] = some (ks.map lnD) := by simp [lstD]
  have lf : lstD [.lst (fs.map lnD)] = some (fs.map lnD) := by simp [lstD]
  have v2 : ∀ a b : D, vals [Sl.val a, Sl.val b] = some [a, b] := fun _ _ => rfl
  have s2' : ∀ a b : D, shortO (some [a, b]) = some [a, b] := fun a b => short_le _ (by simp)
  have v3 : ∀ a b c : D, vals [Sl.val a, Sl.val b, Sl.val c] = some [a, b, c] := fun _ _ _ => rfl
  have s3' : ∀ a b c : D, shortO (some [a, b, c]) = some [a, b, c] := fun a b c => short_le _ (by simp)
  have sq : ∀ l : List D, seqItems (.lst l) = some l := fun _ => rfl
  have hrev : ks.reverse.map lnD = (ks.map lnD).reverse := List.map_reverse
  rw [hrev] at i2
  have hzz : (fs.map lnD).length < sizeLine := Nat.lt_of_lt_of_le (show (fs.map lnD).length < 10000 by simp; omega) (by decide)
  refine fn_ret rfl ?_
  show S_law_0 [.val (.lst (ns.map D.int)), .no, .no, .no, .no, .no, .no, .no, .no, .no] = _
  generalize ns.map D.int = N at *
  generalize ks.map lnD = KK at *
  generalize fs.map lnD = FF at *
  generalize lnD one = A0 at *
  generalize lnD other = A1 at *
  generalize lnD mid = A2 at *
  generalize lnD tk = A3 at *
  generalize lnD two = A4 at *
  have a1 : S_law_0 [.val (.lst N), .no, .no, .no, .no, .no, .no, .no, .no, .no] = S_law_3 [.val (.lst N), .val (.lst KK), .val A0, .val A1, .no, .no, .no, .no, .no, .no] := by
    simp only [S_law_0, P_law_0, S_law_1, P_law_1, S_law_2, P_law_2, seqR, setR, callO, sl3, asI, bin2, rdP, rdA, consO, valO, List.getElem?_cons_succ, List.getElem?_cons_zero, List.set_cons_succ, List.set_cons_zero, Option.bind, Option.map, hk, hkr, h4, h5, o1, t1, m5, d5, sl1, ad, sl2, rvD_v]
  have a2 : S_law_3 [.val (.lst N), .val (.lst KK), .val A0, .val A1, .no, .no, .no, .no, .no, .no] = S_law_4 [.val (.lst N), .val (.lst KK), .val A0, .val A1, s4, s5, s6, .no, .no, .no] := by
    simp only [S_law_3, P_law_3, seqR, forO, lstO, rdV, consO, valO, List.getElem?_cons_succ, List.getElem?_cons_zero, Option.bind, Option.map, v2, v3, s2', s3', sq, er]
  rw [a1, a2]
  simp only [S_law_4, P_law_4, S_law_5, P_law_5, S_law_6, P_law_6, S_law_7, P_law_7, S_law_8, P_law_8, S_law_9, P_law_9, S_law_10, P_law_10, S_law_11, P_law_11, seqR, setR, setRF, iteR, orB, andO, notO, truD, asB, blO, bltF, callF, rvF, callO, bin2, rdP, rdA, rdO, lstO, consO, valO, pks, pk, appR, revR, retO, List.getElem?_cons_succ, List.getElem?_cons_zero, List.set_cons_succ, List.set_cons_zero, Option.bind, Option.map, lk, lf, i1, i2, i3, gd, n1, e1, rvD_v, rvD_o, v2, s2', hzz, if_true, Bool.not_true, Bool.false_eq_true, if_false]
def top (i : Nat) : Stmt := PySem.Challenge.pw_cubebook_k03_keys_in_order.main.body.getD i (.Pass ⟨0, 0, 0, 0⟩)
abbrev s_is_whole : Stmt := top 1
abbrev s_value_rank : Stmt := top 3
abbrev s_key_rank : Stmt := top 4
abbrev s_key_before : Stmt := top 5
abbrev s_in_order : Stmt := top 6
abbrev s_law_cell_at : Stmt := top 8
abbrev s_law_thing : Stmt := top 9
abbrev s_law_key : Stmt := top 10
abbrev s_law_keys : Stmt := top 11
abbrev s_law_value_ahead : Stmt := top 12
abbrev s_law_ahead : Stmt := top 13
abbrev s_law_is_key : Stmt := top 14
abbrev s_law_good : Stmt := top 15
abbrev s_law : Stmt := top 16
structure AD where
  a0 : Addr
  d0 : FuncData
  a1 : Addr
  d1 : FuncData
  a2 : Addr
  d2 : FuncData
  a3 : Addr
  d3 : FuncData
  a4 : Addr
  d4 : FuncData
  a5 : Addr
  d5 : FuncData
  a6 : Addr
  d6 : FuncData
  a7 : Addr
  d7 : FuncData
  a8 : Addr
  d8 : FuncData
  a9 : Addr
  d9 : FuncData
  a10 : Addr
  d10 : FuncData
  a11 : Addr
  d11 : FuncData
  a12 : Addr
  d12 : FuncData
  a13 : Addr
  d13 : FuncData
structure Tx (K : PySem.W.Frag) (mg : Str → Option Value) (d : AD) : Prop where
  m0 : mg "is_whole" = some (.ref d.a0)
  F0 : Fun K "is_whole" "is_whole" s_is_whole d.a0 d.d0
  b0 : Binds K d.d0 ["thing"] []
  m1 : mg "value_rank" = some (.ref d.a1)
  F1 : Fun K "value_rank" "value_rank" s_value_rank d.a1 d.d1
  b1 : Binds K d.d1 ["thing"] []
  m2 : mg "key_rank" = some (.ref d.a2)
  F2 : Fun K "key_rank" "key_rank" s_key_rank d.a2 d.d2
  b2 : Binds K d.d2 ["key"] []
  m3 : mg "key_before" = some (.ref d.a3)
  F3 : Fun K "key_before" "key_before" s_key_before d.a3 d.d3
  b3 : Binds K d.d3 ["one", "other"] []
  m4 : mg "in_order" = some (.ref d.a4)
  F4 : Fun K "in_order" "in_order" s_in_order d.a4 d.d4
  b4 : Binds K d.d4 ["keys"] []
  m5 : mg "_law_cell_at" = some (.ref d.a5)
  F5 : Fun K "_law_cell_at" "_law_cell_at" s_law_cell_at d.a5 d.d5
  b5 : Binds K d.d5 ["_law_script", "_law_k"] []
  m6 : mg "_law_thing" = some (.ref d.a6)
  F6 : Fun K "_law_thing" "_law_thing" s_law_thing d.a6 d.d6
  b6 : Binds K d.d6 ["_law_script", "_law_x"] []
  m7 : mg "_law_key" = some (.ref d.a7)
  F7 : Fun K "_law_key" "_law_key" s_law_key d.a7 d.d7
  b7 : Binds K d.d7 ["_law_script", "_law_cell"] []
  m8 : mg "_law_keys" = some (.ref d.a8)
  F8 : Fun K "_law_keys" "_law_keys" s_law_keys d.a8 d.d8
  b8 : Binds K d.d8 ["_law_script"] []
  m9 : mg "_law_value_ahead" = some (.ref d.a9)
  F9 : Fun K "_law_value_ahead" "_law_value_ahead" s_law_value_ahead d.a9 d.d9
  b9 : Binds K d.d9 ["_law_one", "_law_other"] []
  m10 : mg "_law_ahead" = some (.ref d.a10)
  F10 : Fun K "_law_ahead" "_law_ahead" s_law_ahead d.a10 d.d10
  b10 : Binds K d.d10 ["_law_one", "_law_other"] []
  m11 : mg "_law_is_key" = some (.ref d.a11)
  F11 : Fun K "_law_is_key" "_law_is_key" s_law_is_key d.a11 d.d11
  b11 : Binds K d.d11 ["_law_key_here"] []
  m12 : mg "_law_good" = some (.ref d.a12)
  F12 : Fun K "_law_good" "_law_good" s_law_good d.a12 d.d12
  b12 : Binds K d.d12 ["_law_found", "_law_keys_here"] []
  m13 : mg "law" = some (.ref d.a13)
  F13 : Fun K "law" "law" s_law d.a13 d.d13
  b13 : Binds K d.d13 ["_law_script"] []
  n_all : mg "all" = none
  n_bool : mg "bool" = none
  n_int : mg "int" = none
  n_isinstance : mg "isinstance" = none
  n_len : mg "len" = none
  n_list : mg "list" = none
  n_range : mg "range" = none
  n_sorted : mg "sorted" = none
  n_str : mg "str" = none
  n_tuple : mg "tuple" = none
  n_zip : mg "zip" = none
section
variable {P : Program} {w : World} {K : PySem.W.Frag} {mg : Str → Option Value} {base : Heap} {d : AD}
theorem sc_is_whole : FnScope ["thing"] ["thing"] (defScope s_is_whole) := ⟨rfl, rfl, rfl, by decide +kernel, rfl, by decide +kernel, by decide +kernel⟩
theorem ok_is_whole (T : Tx K mg d) : FnOk P w K mg base CX0 1 d.a0 d.d0 ["thing"] (spD K F_is_whole) :=
  by
  refine fn_okJ (N := ["thing"]) (ps := ["thing"]) T.F0 sc_is_whole (by decide) (g := g_is_whole) (fun cdv A outer s H E M H0 hr => ?_)
  refine j_conv (j_vs_cons (j_vs_ret (j_ve_and (j_ve_callB call_isD rc_is (by rfl) T.n_isinstance (by rfl) (j_va_cons (j_va 0) (j_va_cons (j_va_e (j_ve_tyn (n := "int") (by rfl) T.n_int (by rfl))) j_va_nil))) (j_ve_one (j_ve_not (j_ve_callB call_isD rc_is (by rfl) T.n_isinstance (by rfl) (j_va_cons (j_va 0) (j_va_cons (j_va_e (j_ve_tyn (n := "bool") (by rfl) T.n_bool (by rfl))) j_va_nil)))))))
      j_vs_nil) ?_
  rfl
theorem sc_law_cell_at : FnScope ["_law_script", "_law_k"] ["_law_script", "_law_k"] (defScope s_law_cell_at) := ⟨rfl, rfl, rfl, by decide +kernel, rfl, by decide +kernel, by decide +kernel⟩
theorem ok_law_cell_at (T : Tx K mg d) : FnOk P w K mg base CX0 1 d.a5 d.d5 ["_law_script", "_law_k"] (spD K F_law_cell_at) :=
  by
  refine fn_okJ (N := ["_law_script", "_law_k"]) (ps := ["_law_script", "_law_k"]) T.F5 sc_law_cell_at (by decide) (g := g_law_cell_at) (fun cdv A outer s H E M H0 hr => ?_)
  refine j_conv (j_vs_cons (j_vs_if (j_vtc_lt hr.units (j_vp 1) (j_p (j_ve_callB call_len rc_len (by rfl) T.n_len (by rfl) (j_va_cons (j_va 0) j_va_nil))))
      (j_vs_cons (j_vs_ret (j_ve_item (j_vp 0) (j_vp 1) (fun _ _ => rfl)))
      j_vs_nil)
      j_vs_nil)
      (j_vs_cons (j_vs_ret j_ve_int)
      j_vs_nil)) ?_
  rfl
theorem sc_law_value_ahead : FnScope ["_law_one", "_law_other", "_law_signs", "_law_mine", "_law_yours"] ["_law_one", "_law_other"] (defScope s_law_value_ahead) := ⟨rfl, rfl, rfl, by decide +kernel, rfl, by decide +kernel, by decide +kernel⟩
theorem ok_law_value_ahead (T : Tx K mg d) : FnOk P w K mg base CX0 1 d.a9 d.d9 ["_law_one", "_law_other"] (spD K F_law_value_ahead) :=
  by
  refine fn_okJ (N := ["_law_one", "_law_other", "_law_signs", "_law_mine", "_law_yours"]) (ps := ["_law_one", "_law_other"]) T.F9 sc_law_value_ahead (by decide) (g := g_law_value_ahead) (fun cdv A outer s H E M H0 hr => ?_)
  refine j_conv (j_vs_cons (j_vs_if (j_pt (j_vw_or (j_vt_isN (j_vp 0)) (j_vw_or1 (j_vt_isN (j_vp 1)))))
      (j_vs_cons (j_vs_ret (j_ve_and (j_ve_isN (j_vp 0)) (j_ve_one (j_ve_notN (j_vp 1)))))
      j_vs_nil)
      j_vs_nil)
      (j_vs_cons (j_vs_if (j_vtc_ne hr.units (j_p (j_ve_callB call_isD rc_is (by rfl) T.n_isinstance (by rfl) (j_va_cons (j_va 0) (j_va_cons (j_va_e (j_ve_tyn (n := "str") (by rfl) T.n_str (by rfl))) j_va_nil)))) (j_p (j_ve_callB call_isD rc_is (by rfl) T.n_isinstance (by rfl) (j_va_cons (j_va 1) (j_va_cons (j_va_e (j_ve_tyn (n := "str") (by rfl) T.n_str (by rfl))) j_va_nil)))))
      (j_vs_cons (j_vs_ret (j_ve_callB call_isD rc_is (by rfl) T.n_isinstance (by rfl) (j_va_cons (j_va 1) (j_va_cons (j_va_e (j_ve_tyn (n := "str") (by rfl) T.n_str (by rfl))) j_va_nil))))
      j_vs_nil)
      j_vs_nil)
      (j_vs_cons (j_vs_if (j_vt_tru (j_p (j_ve_callB call_isD rc_is (by rfl) T.n_isinstance (by rfl) (j_va_cons (j_va 0) (j_va_cons (j_va_e (j_ve_tyn (n := "int") (by rfl) T.n_int (by rfl))) j_va_nil)))))
      (j_vs_cons (j_vs_ret (j_vc_lt hr.units (j_vp 0) (j_vp 1)))
      j_vs_nil)
      j_vs_nil)
      (j_vs_cons (j_vs_set (i := 2) sc_law_value_ahead.nd rfl (Or.inl rfl) j_ve_str)
      (j_vs_cons (j_vs_for PassesOwn.never rfl (j_vi_zip (by rfl) T.n_zip (j_vq 0) (j_vq 1)) (j_vg_tup (n := 2) rfl (j_vgs_cons (j_vg_name (i := 3) sc_law_value_ahead.nd rfl (Or.inl rfl)) (j_vgs_cons (j_vg_name (i := 4) sc_law_value_ahead.nd rfl (Or.inl rfl)) j_vgs_nil)))
      (j_vs_cons (j_vs_if (j_vtc_ne hr.units (j_vp 3) (j_vp 4))
      (j_vs_cons (j_vs_ret (j_vc_lt hr.units (j_p (j_ve_bm PySem.F.plainAttrs_str PySem.F.slot_str_find PySem.F.type_str_find mt_find rm_find (j_vp 2) (j_va_cons (j_va 3) j_va_nil))) (j_p (j_ve_bm PySem.F.plainAttrs_str PySem.F.slot_str_find PySem.F.type_str_find mt_find rm_find (j_vp 2) (j_va_cons (j_va 4) j_va_nil)))))
      j_vs_nil)
      j_vs_nil)
      j_vs_nil))
      (j_vs_cons (j_vs_ret (j_vc_lt hr.units (j_p (j_ve_callB call_len rc_len (by rfl) T.n_len (by rfl) (j_va_cons (j_va 0) j_va_nil))) (j_p (j_ve_callB call_len rc_len (by rfl) T.n_len (by rfl) (j_va_cons (j_va 1) j_va_nil)))))
      j_vs_nil)))))) ?_
  rfl
theorem sc_law_is_key : FnScope ["_law_key_here"] ["_law_key_here"] (defScope s_law_is_key) := ⟨rfl, rfl, rfl, by decide +kernel, rfl, by decide +kernel, by decide +kernel⟩
theorem ok_law_is_key (T : Tx K mg d) : FnOk P w K mg base CX0 1 d.a11 d.d11 ["_law_key_here"] (spD K F_law_is_key) :=
  by
  refine fn_okJ (N := ["_law_key_here"]) (ps := ["_law_key_here"]) T.F11 sc_law_is_key (by decide) (g := g_law_is_key) (fun cdv A outer s H E M H0 hr => ?_)
  refine j_conv (j_vs_cons (j_vs_if (j_vt_not (j_vt_tru (j_p (j_ve_callB call_isD rc_is (by rfl) T.n_isinstance (by rfl) (j_va_cons (j_va 0) (j_va_cons (j_va_e (j_ve_tyn (n := "tuple") (by rfl) T.n_tuple (by rfl))) j_va_nil))))))
      (j_vs_cons (j_vs_ret j_ve_bl)
      j_vs_nil)
      j_vs_nil)
      (j_vs_cons (j_vs_ret (j_ve_callB (call_all rfl) rc_all (by rfl) T.n_all (by rfl) (j_va_cons (j_va_e (j_fd (j_vf_comp ["_law_thing_here"] [] [] (show CompSc ["_law_thing_here"] [] _ (defScope s_law_is_key) from ⟨rfl, by decide +kernel, by decide +kernel, by decide +kernel, by decide +kernel, by decide +kernel⟩) rfl rfl  (j_vi_seq (j_vq 0)) (fun _ _ _ _ _ _ _ => (j_vg_name (i := 0) (show ((["_law_thing_here"] : List Str) ++ ([] : List Str)).Nodup by decide +kernel) rfl (Or.inl rfl))) (fun _ _ _ _ _ _ _ => j_vf_nil) (fun _ _ _ _ _ _ _ => (j_ve_or (j_ve_isN (j_vp 0)) (j_ve_one (j_ve_and (j_ve_callB call_isD rc_is (by rfl) T.n_isinstance (by rfl) (j_va_cons (j_va 0) (j_va_cons (j_va_e (j_ve_tup (j_va_cons (j_va_e (j_ve_tyn (n := "int") (by rfl) T.n_int (by rfl))) (j_va_cons (j_va_e (j_ve_tyn (n := "str") (by rfl) T.n_str (by rfl))) j_va_nil)))) j_va_nil))) (j_ve_one (j_ve_not (j_ve_callB call_isD rc_is (by rfl) T.n_isinstance (by rfl) (j_va_cons (j_va 0) (j_va_cons (j_va_e (j_ve_tyn (n := "bool") (by rfl) T.n_bool (by rfl))) j_va_nil))))))))) (by decide)))) j_va_nil)))
      j_vs_nil)) ?_
  rfl
theorem sc_value_rank : FnScope ["thing"] ["thing"] (defScope s_value_rank) := ⟨rfl, rfl, rfl, by decide +kernel, rfl, by decide +kernel, by decide +kernel⟩
theorem ok_value_rank (T : Tx K mg d) : FnOk P w K mg base CX0 2 d.a1 d.d1 ["thing"] (spD K F_value_rank) :=
  by
  refine fn_okJ (N := ["thing"]) (ps := ["thing"]) T.F1 sc_value_rank (by decide) (g := g_value_rank) (fun cdv A outer s H E M H0 hr => ?_)
  refine j_conv (j_vs_cons (j_vs_if (j_vt_isN (j_vp 0))
      (j_vs_cons (j_vs_ret (j_ve_tup (j_va_cons (j_va_e j_ve_int) (j_va_cons (j_va_e j_ve_int) j_va_nil))))
      j_vs_nil)
      j_vs_nil)
      (j_vs_cons (j_vs_if (j_vt_tru (j_p (j_ve_call (ok_is_whole T) (hr.mono (by decide)) (by rfl) T.m0 T.F0.kp T.b0 (E := E0) pass0 (j_va_cons (j_va 0) j_va_nil))))
      (j_vs_cons (j_vs_ret (j_ve_tup (j_va_cons (j_va_e j_ve_int) (j_va_cons (j_va_e (j_vv 0)) j_va_nil))))
      j_vs_nil)
      j_vs_nil)
      (j_vs_cons (j_vs_ret (j_ve_tup (j_va_cons (j_va_e j_ve_int) (j_va_cons (j_va_e (j_vv 0)) j_va_nil))))
      j_vs_nil))) ?_
  rfl
theorem sc_law_thing : FnScope ["_law_script", "_law_x", "_law_base", "_law_signs", "_law_cell", "_law_word", "_law_at"] ["_law_script", "_law_x"] (defScope s_law_thing) := ⟨rfl, rfl, rfl, by decide +kernel, rfl, by decide +kernel, by decide +kernel⟩
theorem ok_law_thing (T : Tx K mg d) : FnOk P w K mg base CX0 2 d.a6 d.d6 ["_law_script", "_law_x"] (spD K F_law_thing) :=
  by
  refine fn_okJ (N := ["_law_script", "_law_x", "_law_base", "_law_signs", "_law_cell", "_law_word", "_law_at"]) (ps := ["_law_script", "_law_x"]) T.F6 sc_law_thing (by decide) (g := g_law_thing) (fun cdv A outer s H E M H0 hr => ?_)
  refine j_conv (j_vs_cons (j_vs_if (j_vtc_eq hr.units (j_p (j_ve_mod (j_vp 1) (j_p j_ve_int))) (j_p j_ve_int))
      (j_vs_cons (j_vs_ret j_ve_non)
      j_vs_nil)
      j_vs_nil)
      (j_vs_cons (j_vs_set (i := 2) sc_law_thing.nd rfl (Or.inl rfl) (j_ve_mod (j_p (j_ve_call (ok_law_cell_at T) (hr.mono (by decide)) (by rfl) T.m5 T.F5.kp T.b5 (E := E0) pass0 (j_va_cons (j_va 0) (j_va_cons (j_va_e j_ve_int) j_va_nil)))) (j_p (j_ve_pow (j_p j_ve_int) (j_p j_ve_int)))))
      (j_vs_cons (j_vs_if (j_vtc_lt hr.units (j_p (j_ve_mod (j_vp 1) (j_p j_ve_int))) (j_p j_ve_int))
      (j_vs_cons (j_vs_ret (j_ve_add (j_p (j_ve_item (j_p (j_fd (j_vf_lst (j_va_cons (j_va_e (j_vv 2)) (j_va_cons (j_va_e (j_ve_sub (j_p j_ve_int) (j_vp 2))) j_va_nil))))) (j_p (j_ve_mod (j_p (j_ve_fdiv (j_vp 1) (j_p j_ve_int))) (j_p j_ve_int))) (fun _ _ => rfl))) (j_p (j_ve_mod (j_p (j_ve_fdiv (j_vp 1) (j_p j_ve_int))) (j_p j_ve_int)))))
      j_vs_nil)
      j_vs_nil)
      (j_vs_cons (j_vs_set (i := 3) sc_law_thing.nd rfl (Or.inr rfl) j_ve_str)
      (j_vs_cons (j_vs_set (i := 4) sc_law_thing.nd rfl (Or.inr rfl) (j_ve_call (ok_law_cell_at T) (hr.mono (by decide)) (by rfl) T.m5 T.F5.kp T.b5 (E := E0) pass0 (j_va_cons (j_va 0) (j_va_cons (j_va_e j_ve_int) j_va_nil))))
      (j_vs_cons (j_vs_setComp (i := 5) ["_law_k"] ["_law_signs", "_law_cell"] [3, 4] (show CompSc ["_law_k"] ["_law_signs", "_law_cell"] _ (defScope s_law_thing) from ⟨rfl, by decide +kernel, by decide +kernel, by decide +kernel, by decide +kernel, by decide +kernel⟩) rfl rfl sc_law_thing.nd rfl rfl (j_vi_range1 (by rfl) T.n_range (j_va_cons (j_va_e (j_ve_add (j_p j_ve_int) (j_p (j_ve_mod (j_vp 4) (j_p j_ve_int))))) j_va_nil)) (fun _ _ _ _ _ _ _ => (j_vg_name (i := 0) (show ((["_law_k"] : List Str) ++ (["_law_signs", "_law_cell"] : List Str)).Nodup by decide +kernel) rfl (Or.inl rfl))) (fun _ _ _ _ _ _ _ => j_vf_nil) (fun _ _ _ _ _ _ _ => (j_ve_item (j_vp 1) (j_p (j_ve_mod (j_p (j_ve_add (j_p (j_ve_fdiv (j_vp 2) (j_p (j_ve_add (j_vp 0) (j_p j_ve_int))))) (j_p (j_ve_mul (j_p j_ve_int) (j_vp 0))))) (j_p j_ve_int))) (fun _ _ => rfl))) (by decide))
      (j_vs_cons (j_vs_set (i := 6) sc_law_thing.nd rfl (Or.inl rfl) (j_ve_mod (j_p (j_ve_call (ok_law_cell_at T) (hr.mono (by decide)) (by rfl) T.m5 T.F5.kp T.b5 (E := E0) pass0 (j_va_cons (j_va 0) (j_va_cons (j_va_e j_ve_int) j_va_nil)))) (j_p (j_ve_callB call_len rc_len (by rfl) T.n_len (by rfl) (j_va_cons (j_va 5) j_va_nil)))))
      (j_vs_cons (j_vs_if (j_vtc_lt hr.units (j_p (j_ve_mod (j_vp 1) (j_p j_ve_int))) (j_p j_ve_int))
      (j_vs_cons (j_vs_item (i := 5) (j_vp 6) (j_ve_item (j_vp 3) (j_p (j_ve_mod (j_p (j_ve_add (j_vp 4) (j_p (j_ve_mod (j_p (j_ve_fdiv (j_vp 1) (j_p j_ve_int))) (j_p j_ve_int))))) (j_p j_ve_int))) (fun _ _ => rfl)))
      j_vs_nil)
      (j_vs_cons (j_vs_append (i := 5) rfl (by first | exact Or.inl rfl | exact Or.inr (Or.inl rfl)) (j_ve_item (j_vp 3) (j_p (j_ve_mod (j_p (j_ve_fdiv (j_vp 1) (j_p j_ve_int))) (j_p j_ve_int))) (fun _ _ => rfl)))
      j_vs_nil))
      (j_vs_cons (j_vs_ret (j_ve_bm PySem.F.plainAttrs_str PySem.F.slot_str_join PySem.F.type_str_join mt_join rm_join (j_p j_ve_str) (j_va_cons (j_va 5) j_va_nil)))
      j_vs_nil))))))))) ?_
  rfl
theorem sc_law_ahead : FnScope ["_law_one", "_law_other", "_law_mine", "_law_yours"] ["_law_one", "_law_other"] (defScope s_law_ahead) := ⟨rfl, rfl, rfl, by decide +kernel, rfl, by decide +kernel, by decide +kernel⟩
theorem ok_law_ahead (T : Tx K mg d) : FnOk P w K mg base CX0 2 d.a10 d.d10 ["_law_one", "_law_other"] (spD K F_law_ahead) :=
  by
  refine fn_okJ (N := ["_law_one", "_law_other", "_law_mine", "_law_yours"]) (ps := ["_law_one", "_law_other"]) T.F10 sc_law_ahead (by decide) (g := g_law_ahead) (fun cdv A outer s H E M H0 hr => ?_)
  refine j_conv (j_vs_cons (j_vs_for PassesOwn.never rfl (j_vi_zip (by rfl) T.n_zip (j_vq 0) (j_vq 1)) (j_vg_tup (n := 2) rfl (j_vgs_cons (j_vg_name (i := 2) sc_law_ahead.nd rfl (Or.inl rfl)) (j_vgs_cons (j_vg_name (i := 3) sc_law_ahead.nd rfl (Or.inl rfl)) j_vgs_nil)))
      (j_vs_cons (j_vs_if (j_vtc_ne hr.units (j_vp 2) (j_vp 3))
      (j_vs_cons (j_vs_ret (j_ve_call (ok_law_value_ahead T) (hr.mono (by decide)) (by rfl) T.m9 T.F9.kp T.b9 (E := E0) pass0 (j_va_cons (j_va 2) (j_va_cons (j_va 3) j_va_nil))))
      j_vs_nil)
      j_vs_nil)
      j_vs_nil))
      (j_vs_cons (j_vs_ret (j_vc_lt hr.units (j_p (j_ve_callB call_len rc_len (by rfl) T.n_len (by rfl) (j_va_cons (j_va 0) j_va_nil))) (j_p (j_ve_callB call_len rc_len (by rfl) T.n_len (by rfl) (j_va_cons (j_va 1) j_va_nil)))))
      j_vs_nil)) ?_
  rfl
theorem sc_key_rank : FnScope ["key"] ["key"] (defScope s_key_rank) := ⟨rfl, rfl, rfl, by decide +kernel, rfl, by decide +kernel, by decide +kernel⟩
theorem ok_key_rank (T : Tx K mg d) : FnOk P w K mg base CX0 3 d.a2 d.d2 ["key"] (spD K F_key_rank) :=
  by
  refine fn_okJ (N := ["key"]) (ps := ["key"]) T.F2 sc_key_rank (by decide) (g := g_key_rank) (fun cdv A outer s H E M H0 hr => ?_)
  refine j_conv (j_vs_cons (j_vs_ret (j_ve_callTy call_tuple_of rc_tuple (by rfl) T.n_tuple (by rfl) (j_va_cons (j_va_e (j_fd (j_vf_comp ["thing"] [] [] (show CompSc ["thing"] [] _ (defScope s_key_rank) from ⟨rfl, by decide +kernel, by decide +kernel, by decide +kernel, by decide +kernel, by decide +kernel⟩) rfl rfl  (j_vi_seq (j_vq 0)) (fun _ _ _ _ _ _ _ => (j_vg_name (i := 0) (show ((["thing"] : List Str) ++ ([] : List Str)).Nodup by decide +kernel) rfl (Or.inl rfl))) (fun _ _ _ _ _ _ _ => j_vf_nil) (fun _ _ _ _ _ _ _ => (j_ve_call (ok_value_rank T) (hr.mono (by decide)) (by rfl) T.m1 T.F1.kp T.b1 (E := E0) pass0 (j_va_cons (j_va 0) j_va_nil))) (by decide)))) j_va_nil)))
      j_vs_nil) ?_
  rfl
theorem sc_law_key : FnScope ["_law_script", "_law_cell", "_law_x"] ["_law_script", "_law_cell"] (defScope s_law_key) := ⟨rfl, rfl, rfl, by decide +kernel, rfl, by decide +kernel, by decide +kernel⟩
theorem ok_law_key (T : Tx K mg d) : FnOk P w K mg base CX0 3 d.a7 d.d7 ["_law_script", "_law_cell"] (spD K F_law_key) :=
  by
  refine fn_okJ (N := ["_law_script", "_law_cell", "_law_x"]) (ps := ["_law_script", "_law_cell"]) T.F7 sc_law_key (by decide) (g := g_law_key) (fun cdv A outer s H E M H0 hr => ?_)
  refine j_conv (j_vs_cons (j_vs_set (i := 2) sc_law_key.nd rfl (Or.inr rfl) (j_ve_mod (j_p (j_ve_mul (j_p (j_ve_mod (j_vp 1) (j_p j_ve_int))) (j_p j_ve_int))) (j_p j_ve_int)))
      (j_vs_cons (j_vs_ret (j_ve_callTy call_tuple_of rc_tuple (by rfl) T.n_tuple (by rfl) (j_va_cons (j_va_e (j_fd (j_vf_comp ["_law_k"] ["_law_script", "_law_x"] [0, 2] (show CompSc ["_law_k"] ["_law_script", "_law_x"] _ (defScope s_law_key) from ⟨rfl, by decide +kernel, by decide +kernel, by decide +kernel, by decide +kernel, by decide +kernel⟩) rfl rfl  (j_vi_range1 (by rfl) T.n_range (j_va_cons (j_va_e (j_ve_item (j_p (j_fd (j_vf_lst (j_va_cons (j_va_e j_ve_int) (j_va_cons (j_va_e j_ve_int) (j_va_cons (j_va_e j_ve_int) (j_va_cons (j_va_e j_ve_int) (j_va_cons (j_va_e j_ve_int) (j_va_cons (j_va_e j_ve_int) j_va_nil))))))))) (j_p (j_ve_mod (j_vp 2) (j_p j_ve_int))) (fun _ _ => rfl))) j_va_nil)) (fun _ _ _ _ _ _ _ => (j_vg_name (i := 0) (show ((["_law_k"] : List Str) ++ (["_law_script", "_law_x"] : List Str)).Nodup by decide +kernel) rfl (Or.inl rfl))) (fun _ _ _ _ _ _ _ => j_vf_nil) (fun _ _ _ _ _ _ _ => (j_ve_call (ok_law_thing T) (hr.mono (by decide)) (by rfl) T.m6 T.F6.kp T.b6 (E := E0) pass0 (j_va_cons (j_va 1) (j_va_cons (j_va_e (j_ve_fdiv (j_vp 2) (j_p (j_ve_item (j_p (j_fd (j_vf_lst (j_va_cons (j_va_e j_ve_int) (j_va_cons (j_va_e j_ve_int) (j_va_cons (j_va_e j_ve_int) (j_va_cons (j_va_e j_ve_int) j_va_nil))))))) (j_vp 0) (fun _ _ => rfl))))) j_va_nil)))) (by decide)))) j_va_nil)))
      j_vs_nil)) ?_
  rfl
theorem sc_law_good : FnScope ["_law_found", "_law_keys_here", "_law_k"] ["_law_found", "_law_keys_here"] (defScope s_law_good) := ⟨rfl, rfl, rfl, by decide +kernel, rfl, by decide +kernel, by decide +kernel⟩
theorem ok_law_good (T : Tx K mg d) : FnOk P w K mg base CX0 3 d.a12 d.d12 ["_law_found", "_law_keys_here"] (spD K F_law_good) :=
  by
  refine fn_okJ (N := ["_law_found", "_law_keys_here", "_law_k"]) (ps := ["_law_found", "_law_keys_here"]) T.F12 sc_law_good (by decide) (g := g_law_good) (fun cdv A outer s H E M H0 hr => ?_)
  refine j_conv (j_vs_cons (j_vs_if (j_vt_not (j_vt_tru (j_p (j_ve_callB call_isD rc_is (by rfl) T.n_isinstance (by rfl) (j_va_cons (j_va 0) (j_va_cons (j_va_e (j_ve_tyn (n := "list") (by rfl) T.n_list (by rfl))) j_va_nil))))))
      (j_vs_cons (j_vs_ret j_ve_bl)
      j_vs_nil)
      j_vs_nil)
      (j_vs_cons (j_vs_for PassesOwn.never rfl (j_vi_range1 (by rfl) T.n_range (j_va_cons (j_va_e (j_ve_callB call_len rc_len (by rfl) T.n_len (by rfl) (j_va_cons (j_va 0) j_va_nil))) j_va_nil)) (j_vg_name (i := 2) sc_law_good.nd rfl (Or.inl rfl))
      (j_vs_cons (j_vs_if (j_pt (j_vw_or (j_vt_not (j_vt_tru (j_p (j_ve_call (ok_law_is_key T) (hr.mono (by decide)) (by rfl) T.m11 T.F11.kp T.b11 (E := E0) pass0 (j_va_cons (j_va_e (j_ve_item (j_vp 0) (j_vp 2) (fun _ _ => rfl))) j_va_nil))))) (j_vw_or1 (j_vtc_nin hr.units (j_p (j_ve_item (j_vp 0) (j_vp 2) (fun _ _ => rfl))) (j_vp 1)))))
      (j_vs_cons (j_vs_ret j_ve_bl)
      j_vs_nil)
      j_vs_nil)
      (j_vs_cons (j_vs_if (j_pt (j_vw_and (j_vtc_gt hr.units (j_vp 2) (j_p j_ve_int)) (j_vw_and1 (j_vt_not (j_vt_tru (j_p (j_ve_call (ok_law_ahead T) (hr.mono (by decide)) (by rfl) T.m10 T.F10.kp T.b10 (E := E0) pass0 (j_va_cons (j_va_e (j_ve_item (j_vp 0) (j_p (j_ve_sub (j_vp 2) (j_p j_ve_int))) (fun _ _ => rfl))) (j_va_cons (j_va_e (j_ve_item (j_vp 0) (j_vp 2) (fun _ _ => rfl))) j_va_nil)))))))))
      (j_vs_cons (j_vs_ret j_ve_bl)
      j_vs_nil)
      j_vs_nil)
      j_vs_nil)))
      (j_vs_cons (j_vs_ret (j_ve_callB (call_all rfl) rc_all (by rfl) T.n_all (by rfl) (j_va_cons (j_va_e (j_fd (j_vf_comp ["_law_key_here"] ["_law_found"] [0] (show CompSc ["_law_key_here"] ["_law_found"] _ (defScope s_law_good) from ⟨rfl, by decide +kernel, by decide +kernel, by decide +kernel, by decide +kernel, by decide +kernel⟩) rfl rfl  (j_vi_seq (j_vq 1)) (fun _ _ _ _ _ _ _ => (j_vg_name (i := 0) (show ((["_law_key_here"] : List Str) ++ (["_law_found"] : List Str)).Nodup by decide +kernel) rfl (Or.inl rfl))) (fun _ _ _ _ _ _ _ => j_vf_nil) (fun _ _ _ _ _ _ _ => (j_vc_in hr.units (j_vp 0) (j_vp 1))) (by decide)))) j_va_nil)))
      j_vs_nil))) ?_
  rfl
theorem sc_key_before : FnScope ["one", "other"] ["one", "other"] (defScope s_key_before) := ⟨rfl, rfl, rfl, by decide +kernel, rfl, by decide +kernel, by decide +kernel⟩
theorem ok_key_before (T : Tx K mg d) : FnOk P w K mg base CX0 4 d.a3 d.d3 ["one", "other"] (spD K F_key_before) :=
  by
  refine fn_okJ (N := ["one", "other"]) (ps := ["one", "other"]) T.F3 sc_key_before (by decide) (g := g_key_before) (fun cdv A outer s H E M H0 hr => ?_)
  refine j_conv (j_vs_cons (j_vs_ret (j_vc_lt hr.units (j_p (j_ve_call (ok_key_rank T) (hr.mono (by decide)) (by rfl) T.m2 T.F2.kp T.b2 (E := E0) pass0 (j_va_cons (j_va 0) j_va_nil))) (j_p (j_ve_call (ok_key_rank T) (hr.mono (by decide)) (by rfl) T.m2 T.F2.kp T.b2 (E := E0) pass0 (j_va_cons (j_va 1) j_va_nil)))))
      j_vs_nil) ?_
  rfl
theorem sc_law_keys : FnScope ["_law_script", "_law_keys_here", "_law_number", "_law_k"] ["_law_script"] (defScope s_law_keys) := ⟨rfl, rfl, rfl, by decide +kernel, rfl, by decide +kernel, by decide +kernel⟩
theorem ok_law_keys (T : Tx K mg d) : FnOk P w K mg base CX0 4 d.a8 d.d8 ["_law_script"] (spD K F_law_keys) :=
  by
  refine fn_okJ (N := ["_law_script", "_law_keys_here", "_law_number", "_law_k"]) (ps := ["_law_script"]) T.F8 sc_law_keys (by decide) (g := g_law_keys) (fun cdv A outer s H E M H0 hr => ?_)
  refine j_conv (j_vs_cons (j_vs_setComp (i := 1) ["_law_cell"] ["_law_script"] [0] (show CompSc ["_law_cell"] ["_law_script"] _ (defScope s_law_keys) from ⟨rfl, by decide +kernel, by decide +kernel, by decide +kernel, by decide +kernel, by decide +kernel⟩) rfl rfl sc_law_keys.nd rfl rfl (j_vi_seq (j_q (j_ve_slice (j_vp 0) (j_vo_some (j_p j_ve_int)) (j_vo_some (j_p j_ve_int))))) (fun _ _ _ _ _ _ _ => (j_vg_name (i := 0) (show ((["_law_cell"] : List Str) ++ (["_law_script"] : List Str)).Nodup by decide +kernel) rfl (Or.inl rfl))) (fun _ _ _ _ _ _ _ => j_vf_nil) (fun _ _ _ _ _ _ _ => (j_ve_call (ok_law_key T) (hr.mono (by decide)) (by rfl) T.m7 T.F7.kp T.b7 (E := E0) pass0 (j_va_cons (j_va 1) (j_va_cons (j_va 0) j_va_nil)))) (by decide))
      (j_vs_cons (j_vs_set (i := 2) sc_law_keys.nd rfl (Or.inl rfl) (j_ve_mod (j_p (j_ve_call (ok_law_cell_at T) (hr.mono (by decide)) (by rfl) T.m5 T.F5.kp T.b5 (E := E0) pass0 (j_va_cons (j_va 0) (j_va_cons (j_va_e j_ve_int) j_va_nil)))) (j_p j_ve_int)))
      (j_vs_cons (j_vs_for PassesOwn.never rfl (j_vi_range1 (by rfl) T.n_range (j_va_cons (j_va_e (j_ve_mod (j_p (j_ve_call (ok_law_cell_at T) (hr.mono (by decide)) (by rfl) T.m5 T.F5.kp T.b5 (E := E0) pass0 (j_va_cons (j_va 0) (j_va_cons (j_va_e j_ve_int) j_va_nil)))) (j_p j_ve_int))) j_va_nil)) (j_vg_name (i := 3) sc_law_keys.nd rfl (Or.inl rfl))
      (j_vs_cons (j_vs_set (i := 2) sc_law_keys.nd rfl (Or.inl rfl) (j_ve_mod (j_p (j_ve_add (j_p (j_ve_add (j_p (j_ve_mul (j_vp 2) (j_p j_ve_int))) (j_p (j_ve_mul (j_p j_ve_int) (j_vp 3))))) (j_p j_ve_int))) (j_p j_ve_int)))
      (j_vs_cons (j_vs_append (i := 1) rfl (by first | exact Or.inl rfl | exact Or.inr (Or.inl rfl)) (j_ve_call (ok_law_key T) (hr.mono (by decide)) (by rfl) T.m7 T.F7.kp T.b7 (E := E0) pass0 (j_va_cons (j_va 0) (j_va_cons (j_va 2) j_va_nil))))
      j_vs_nil)))
      (j_vs_cons (j_vs_if (j_vtc_eq hr.units (j_p (j_ve_mod (j_p (j_ve_call (ok_law_cell_at T) (hr.mono (by decide)) (by rfl) T.m5 T.F5.kp T.b5 (E := E0) pass0 (j_va_cons (j_va 0) (j_va_cons (j_va_e j_ve_int) j_va_nil)))) (j_p j_ve_int))) (j_p j_ve_int))
      (j_vs_cons (j_vs_set (i := 1) sc_law_keys.nd rfl (Or.inl rfl) (j_ve_add (j_vp 1) (j_p (j_ve_slice (j_p (j_ve_slice (j_vp 1) (j_vo_some (j_p (j_ve_mod (j_p (j_ve_fdiv (j_p (j_ve_call (ok_law_cell_at T) (hr.mono (by decide)) (by rfl) T.m5 T.F5.kp T.b5 (E := E0) pass0 (j_va_cons (j_va 0) (j_va_cons (j_va_e j_ve_int) j_va_nil)))) (j_p j_ve_int))) (j_p j_ve_int)))) j_vo_none)) j_vo_none (j_vo_some (j_p j_ve_int))))))
      j_vs_nil)
      j_vs_nil)
      (j_vs_cons (j_vs_alt (isOwn 1) (j_vret 1) (j_vs_ret (j_vv 1)))
      j_vs_nil))))) ?_
  rfl
theorem sc_in_order : FnScope ["keys", "told", "key"] ["keys"] (defScope s_in_order) := ⟨rfl, rfl, rfl, by decide +kernel, rfl, by decide +kernel, by decide +kernel⟩
theorem ok_in_order (T : Tx K mg d) : FnOk P w K mg base CX0 6 d.a4 d.d4 ["keys"] (spD K F_in_order) :=
  by
  refine fn_okJ (N := ["keys", "told", "key"]) (ps := ["keys"]) T.F4 sc_in_order (by decide) (g := g_in_order) (fun cdv A outer s H E M H0 hr => ?_)
  refine j_conv (j_vs_cons (j_vs_setF (i := 1) sc_in_order.nd rfl (Or.inl rfl) (j_vf_lst j_va_nil))
      (j_vs_cons (j_vs_for PassesOwn.never rfl (j_vi_seq (j_q (j_fd (j_vf_sortK (ok_key_rank T) (hr.mono (by decide)) (by rfl) T.n_sorted (by rfl) (by rfl) T.m2 T.b2 (j_vp 0))))) (j_vg_name (i := 2) sc_in_order.nd rfl (Or.inl rfl))
      (j_vs_cons (j_vs_if (j_pt (j_vw_or (j_vt_not (j_vt_tru (j_vp 1))) (j_vw_or1 (j_vtc_ne hr.units (j_p (j_ve_item (j_vp 1) (j_p (j_ve_neg (j_p j_ve_int))) (fun _ _ => rfl))) (j_vp 2)))))
      (j_vs_cons (j_vs_append (i := 1) rfl (by first | exact Or.inl rfl | exact Or.inr (Or.inl rfl)) (j_vv 2))
      j_vs_nil)
      j_vs_nil)
      j_vs_nil))
      (j_vs_cons (j_vret 1)
      j_vs_nil))) ?_
  rfl
theorem sc_law : FnScope ["_law_script", "_law_keys_here", "_law_one", "_law_other", "_law_mine", "_law_yours", "_law_truth", "_law_handed", "_law_found", "_law_first"] ["_law_script"] (defScope s_law) := ⟨rfl, rfl, rfl, by decide +kernel, rfl, by decide +kernel, by decide +kernel⟩
theorem ok_law (T : Tx K mg d) : FnOk P w K mg base CX0 7 d.a13 d.d13 ["_law_script"] (spD K F_law) :=
  by
  refine fn_okJ (N := ["_law_script", "_law_keys_here", "_law_one", "_law_other", "_law_mine", "_law_yours", "_law_truth", "_law_handed", "_law_found", "_law_first"]) (ps := ["_law_script"]) T.F13 sc_law (by decide) (g := g_law) (fun cdv A outer s H E M H0 hr => ?_)
  refine j_conv (j_vs_cons (j_vs_set (i := 1) sc_law.nd rfl (Or.inl rfl) (j_ve_call (ok_law_keys T) (hr.mono (by decide)) (by rfl) T.m8 T.F8.kp T.b8 (E := E0) pass0 (j_va_cons (j_va 0) j_va_nil)))
      (j_vs_cons (j_vs_set (i := 2) sc_law.nd rfl (Or.inl rfl) (j_ve_call (ok_law_key T) (hr.mono (by decide)) (by rfl) T.m7 T.F7.kp T.b7 (E := E0) pass0 (j_va_cons (j_va 0) (j_va_cons (j_va_e (j_ve_call (ok_law_cell_at T) (hr.mono (by decide)) (by rfl) T.m5 T.F5.kp T.b5 (E := E0) pass0 (j_va_cons (j_va 0) (j_va_cons (j_va_e j_ve_int) j_va_nil)))) j_va_nil))))
      (j_vs_cons (j_vs_set (i := 3) sc_law.nd rfl (Or.inl rfl) (j_ve_slice (j_p (j_ve_add (j_p (j_ve_slice (j_vp 2) j_vo_none (j_vo_some (j_p (j_ve_mod (j_p (j_ve_call (ok_law_cell_at T) (hr.mono (by decide)) (by rfl) T.m5 T.F5.kp T.b5 (E := E0) pass0 (j_va_cons (j_va 0) (j_va_cons (j_va_e j_ve_int) j_va_nil)))) (j_p j_ve_int)))))) (j_p (j_ve_call (ok_law_key T) (hr.mono (by decide)) (by rfl) T.m7 T.F7.kp T.b7 (E := E0) pass0 (j_va_cons (j_va 0) (j_va_cons (j_va_e (j_ve_fdiv (j_p (j_ve_call (ok_law_cell_at T) (hr.mono (by decide)) (by rfl) T.m5 T.F5.kp T.b5 (E := E0) pass0 (j_va_cons (j_va 0) (j_va_cons (j_va_e j_ve_int) j_va_nil)))) (j_p j_ve_int))) j_va_nil)))))) j_vo_none (j_vo_some (j_p j_ve_int))))
      (j_vs_cons (j_vs_for PassesOwn.never rfl (j_vi_seq (j_q (j_fd (j_vf_lst (j_va_cons (j_va_e (j_ve_tup (j_va_cons (j_va_e (j_vv 2)) (j_va_cons (j_va_e (j_vv 3)) j_va_nil)))) (j_va_cons (j_va_e (j_ve_tup (j_va_cons (j_va_e (j_vv 3)) (j_va_cons (j_va_e (j_vv 2)) j_va_nil)))) (j_va_cons (j_va_e (j_ve_tup (j_va_cons (j_va_e (j_vv 2)) (j_va_cons (j_va_e (j_vv 2)) j_va_nil)))) j_va_nil))))))) (j_vg_tup (n := 2) rfl (j_vgs_cons (j_vg_name (i := 4) sc_law.nd rfl (Or.inl rfl)) (j_vgs_cons (j_vg_name (i := 5) sc_law.nd rfl (Or.inl rfl)) j_vgs_nil)))
      (j_vs_cons (j_vs_set (i := 6) sc_law.nd rfl (Or.inl rfl) (j_ve_call (ok_key_before T) (hr.mono (by decide)) (by rfl) T.m3 T.F3.kp T.b3 (E := E0) pass0 (j_va_cons (j_va 4) (j_va_cons (j_va 5) j_va_nil))))
      (j_vs_cons (j_vs_if (j_pt (j_vw_or (j_vt_not (j_vt_tru (j_p (j_ve_callB call_isD rc_is (by rfl) T.n_isinstance (by rfl) (j_va_cons (j_va 6) (j_va_cons (j_va_e (j_ve_tyn (n := "bool") (by rfl) T.n_bool (by rfl))) j_va_nil)))))) (j_vw_or1 (j_vtc_ne hr.units (j_vp 6) (j_p (j_ve_call (ok_law_ahead T) (hr.mono (by decide)) (by rfl) T.m10 T.F10.kp T.b10 (E := E0) pass0 (j_va_cons (j_va 4) (j_va_cons (j_va 5) j_va_nil))))))))
      (j_vs_cons (j_vs_ret j_ve_bl)
      j_vs_nil)
      j_vs_nil)
      j_vs_nil)))
      (j_vs_cons (j_vs_setF (i := 7) sc_law.nd rfl (Or.inl rfl) (j_vf_callTy call_list_of rc_list (by rfl) T.n_list (by rfl) (j_va_cons (j_va 1) j_va_nil)))
      (j_vs_cons (j_vs_setF (i := 8) sc_law.nd rfl (Or.inl rfl) (j_vf_call (ok_in_order T) (hr.mono (by decide)) (by rfl) T.m4 T.F4.kp T.b4 (E := E0) pass0 (j_va_cons (j_va 7) j_va_nil)))
      (j_vs_cons (j_vs_if (j_pt (j_vw_or (j_vt_not (j_vt_tru (j_p (j_ve_call (ok_law_good T) (hr.mono (by decide)) (by rfl) T.m12 T.F12.kp T.b12 (E := E0) pass0 (j_va_cons (j_va 8) (j_va_cons (j_va 1) j_va_nil)))))) (j_vw_or1 (j_vtc_ne hr.units (j_vp 7) (j_vp 1)))))
      (j_vs_cons (j_vs_ret j_ve_bl)
      j_vs_nil)
      j_vs_nil)
      (j_vs_cons (j_vs_set (i := 9) sc_law.nd rfl (Or.inl rfl) (j_fd (j_vf_callTy call_list_of rc_list (by rfl) T.n_list (by rfl) (j_va_cons (j_va 8) j_va_nil))))
      (j_vs_cons (j_vs_append (i := 8) rfl (by first | exact Or.inl rfl | exact Or.inr (Or.inl rfl)) (j_ve_tup (j_va_cons (j_va_e j_ve_non) (j_va_cons (j_va_e j_ve_int) j_va_nil))))
      (j_vs_cons (j_vs_if (j_vtc_ne hr.units (j_vp 7) (j_vp 1))
      (j_vs_cons (j_vs_ret j_ve_bl)
      j_vs_nil)
      j_vs_nil)
      (j_vs_cons (j_vs_reverse (i := 7))
      (j_vs_cons (j_vs_ret (j_ve_and (j_vc_eq hr.units (j_p (j_ve_call (ok_in_order T) (hr.mono (by decide)) (by rfl) T.m4 T.F4.kp T.b4 (E := E0) pass0 (j_va_cons (j_va 7) j_va_nil))) (j_vp 9)) (j_ve_one (j_vc_eq hr.units (j_p (j_ve_call (ok_in_order T) (hr.mono (by decide)) (by rfl) T.m4 T.F4.kp T.b4 (E := E0) pass0 (j_va_cons (j_va_e (j_fd (j_vf_callTy call_list_of rc_list (by rfl) T.n_list (by rfl) (j_va_cons (j_va 9) j_va_nil)))) j_va_nil))) (j_vp 9)))))
      j_vs_nil)))))))))))) ?_
  rfl
end
theorem us1 {P : List Value → Prop} (h : ∀ a0 : Value, P [a0]) (us : List Value) (hl : us.length = 1) : P us := by
  obtain ⟨a0, e⟩ : ∃ a0, us = [a0] := by
    match us, hl with
    | [a0], _ => exact ⟨a0, rfl⟩
  subst e
  exact h a0
theorem us2 {P : List Value → Prop} (h : ∀ a0 a1 : Value, P [a0, a1]) (us : List Value) (hl : us.length = 2) : P us := by
  obtain ⟨a0, a1, e⟩ : ∃ a0 a1, us = [a0, a1] := by
    match us, hl with
    | [a0, a1], _ => exact ⟨a0, a1, rfl⟩
  subst e
  exact h a0 a1
theorem all_mk {l : PySem.W.OpenLaw} {w : World} {K : PySem.W.Frag} {h : Heap} {mg : Str → Option Value} {fa : Addr} (X : K.In h) (G : h.Ns mainGlobals mg) (hfa : mg "law" = some (.ref fa))
    {a0 a1 a2 a3 a4 a5 a6 a7 a8 a9 a10 a11 a12 a13 : Addr}
    {o0 n0 o1 n1 o2 n2 o3 n3 o4 n4 o5 n5 o6 n6 o7 n7 o8 n8 o9 n9 o10 n10 o11 n11 o12 n12 o13 n13 : Option Addr}
    {l0 l1 l2 l3 l4 l5 l6 l7 l8 l9 l10 l11 l12 l13 : Array (Option Value)}
    {r0 v0 e0 p0 c0 t0 r1 v1 e1 p1 c1 t1 r2 v2 e2 p2 c2 t2 r3 v3 e3 p3 c3 t3 r4 v4 e4 p4 c4 t4 r5 v5 e5 p5 c5 t5 r6 v6 e6 p6 c6 t6 r7 v7 e7 p7 c7 t7 r8 v8 e8 p8 c8 t8 r9 v9 e9 p9 c9 t9 r10 v10 e10 p10 c10 t10 r11 v11 e11 p11 c11 t11 r12 v12 e12 p12 c12 t12 r13 v13 e13 p13 c13 t13 : Value}
    (A0 : PySem.W.nsIn K mainGlobals "is_whole" = some (some (.ref a0)))
    (L0 : K.lookup a0 = some ⟨r0, o0, .func (PySem.W.fnOf "is_whole" "is_whole" (defArgs s_is_whole) (defBody s_is_whole) (defScope s_is_whole) .none v0 e0 p0 n0 c0 t0), l0⟩)
    (C0 : PySem.W.codeIn K c0 "is_whole" = true) (k0 : PySem.W.keepIn K (.ref a0) = true)
    (A1 : PySem.W.nsIn K mainGlobals "value_rank" = some (some (.ref a1)))
    (L1 : K.lookup a1 = some ⟨r1, o1, .func (PySem.W.fnOf "value_rank" "value_rank" (defArgs s_value_rank) (defBody s_value_rank) (defScope s_value_rank) .none v1 e1 p1 n1 c1 t1), l1⟩)
    (C1 : PySem.W.codeIn K c1 "value_rank" = true) (k1 : PySem.W.keepIn K (.ref a1) = true)
    (A2 : PySem.W.nsIn K mainGlobals "key_rank" = some (some (.ref a2)))
    (L2 : K.lookup a2 = some ⟨r2, o2, .func (PySem.W.fnOf "key_rank" "key_rank" (defArgs s_key_rank) (defBody s_key_rank) (defScope s_key_rank) .none v2 e2 p2 n2 c2 t2), l2⟩)
    (C2 : PySem.W.codeIn K c2 "key_rank" = true) (k2 : PySem.W.keepIn K (.ref a2) = true)
    (A3 : PySem.W.nsIn K mainGlobals "key_before" = some (some (.ref a3)))
    (L3 : K.lookup a3 = some ⟨r3, o3, .func (PySem.W.fnOf "key_before" "key_before" (defArgs s_key_before) (defBody s_key_before) (defScope s_key_before) .none v3 e3 p3 n3 c3 t3), l3⟩)
    (C3 : PySem.W.codeIn K c3 "key_before" = true) (k3 : PySem.W.keepIn K (.ref a3) = true)
    (A4 : PySem.W.nsIn K mainGlobals "in_order" = some (some (.ref a4)))
    (L4 : K.lookup a4 = some ⟨r4, o4, .func (PySem.W.fnOf "in_order" "in_order" (defArgs s_in_order) (defBody s_in_order) (defScope s_in_order) .none v4 e4 p4 n4 c4 t4), l4⟩)
    (C4 : PySem.W.codeIn K c4 "in_order" = true) (k4 : PySem.W.keepIn K (.ref a4) = true)
    (A5 : PySem.W.nsIn K mainGlobals "_law_cell_at" = some (some (.ref a5)))
    (L5 : K.lookup a5 = some ⟨r5, o5, .func (PySem.W.fnOf "_law_cell_at" "_law_cell_at" (defArgs s_law_cell_at) (defBody s_law_cell_at) (defScope s_law_cell_at) .none v5 e5 p5 n5 c5 t5), l5⟩)
    (C5 : PySem.W.codeIn K c5 "_law_cell_at" = true) (k5 : PySem.W.keepIn K (.ref a5) = true)
    (A6 : PySem.W.nsIn K mainGlobals "_law_thing" = some (some (.ref a6)))
    (L6 : K.lookup a6 = some ⟨r6, o6, .func (PySem.W.fnOf "_law_thing" "_law_thing" (defArgs s_law_thing) (defBody s_law_thing) (defScope s_law_thing) .none v6 e6 p6 n6 c6 t6), l6⟩)
    (C6 : PySem.W.codeIn K c6 "_law_thing" = true) (k6 : PySem.W.keepIn K (.ref a6) = true)
    (A7 : PySem.W.nsIn K mainGlobals "_law_key" = some (some (.ref a7)))
    (L7 : K.lookup a7 = some ⟨r7, o7, .func (PySem.W.fnOf "_law_key" "_law_key" (defArgs s_law_key) (defBody s_law_key) (defScope s_law_key) .none v7 e7 p7 n7 c7 t7), l7⟩)
    (C7 : PySem.W.codeIn K c7 "_law_key" = true) (k7 : PySem.W.keepIn K (.ref a7) = true)
    (A8 : PySem.W.nsIn K mainGlobals "_law_keys" = some (some (.ref a8)))
    (L8 : K.lookup a8 = some ⟨r8, o8, .func (PySem.W.fnOf "_law_keys" "_law_keys" (defArgs s_law_keys) (defBody s_law_keys) (defScope s_law_keys) .none v8 e8 p8 n8 c8 t8), l8⟩)
    (C8 : PySem.W.codeIn K c8 "_law_keys" = true) (k8 : PySem.W.keepIn K (.ref a8) = true)
    (A9 : PySem.W.nsIn K mainGlobals "_law_value_ahead" = some (some (.ref a9)))
    (L9 : K.lookup a9 = some ⟨r9, o9, .func (PySem.W.fnOf "_law_value_ahead" "_law_value_ahead" (defArgs s_law_value_ahead) (defBody s_law_value_ahead) (defScope s_law_value_ahead) .none v9 e9 p9 n9 c9 t9), l9⟩)
    (C9 : PySem.W.codeIn K c9 "_law_value_ahead" = true) (k9 : PySem.W.keepIn K (.ref a9) = true)
    (A10 : PySem.W.nsIn K mainGlobals "_law_ahead" = some (some (.ref a10)))
    (L10 : K.lookup a10 = some ⟨r10, o10, .func (PySem.W.fnOf "_law_ahead" "_law_ahead" (defArgs s_law_ahead) (defBody s_law_ahead) (defScope s_law_ahead) .none v10 e10 p10 n10 c10 t10), l10⟩)
    (C10 : PySem.W.codeIn K c10 "_law_ahead" = true) (k10 : PySem.W.keepIn K (.ref a10) = true)
    (A11 : PySem.W.nsIn K mainGlobals "_law_is_key" = some (some (.ref a11)))
    (L11 : K.lookup a11 = some ⟨r11, o11, .func (PySem.W.fnOf "_law_is_key" "_law_is_key" (defArgs s_law_is_key) (defBody s_law_is_key) (defScope s_law_is_key) .none v11 e11 p11 n11 c11 t11), l11⟩)
    (C11 : PySem.W.codeIn K c11 "_law_is_key" = true) (k11 : PySem.W.keepIn K (.ref a11) = true)
    (A12 : PySem.W.nsIn K mainGlobals "_law_good" = some (some (.ref a12)))
    (L12 : K.lookup a12 = some ⟨r12, o12, .func (PySem.W.fnOf "_law_good" "_law_good" (defArgs s_law_good) (defBody s_law_good) (defScope s_law_good) .none v12 e12 p12 n12 c12 t12), l12⟩)
    (C12 : PySem.W.codeIn K c12 "_law_good" = true) (k12 : PySem.W.keepIn K (.ref a12) = true)
    (A13 : PySem.W.nsIn K mainGlobals "law" = some (some (.ref a13)))
    (L13 : K.lookup a13 = some ⟨r13, o13, .func (PySem.W.fnOf "law" "law" (defArgs s_law) (defBody s_law) (defScope s_law) .none v13 e13 p13 n13 c13 t13), l13⟩)
    (C13 : PySem.W.codeIn K c13 "law" = true) (k13 : PySem.W.keepIn K (.ref a13) = true)
    (N_all : PySem.W.nsIn K mainGlobals "all" = some none)
    (N_bool : PySem.W.nsIn K mainGlobals "bool" = some none)
    (N_int : PySem.W.nsIn K mainGlobals "int" = some none)
    (N_isinstance : PySem.W.nsIn K mainGlobals "isinstance" = some none)
    (N_len : PySem.W.nsIn K mainGlobals "len" = some none)
    (N_list : PySem.W.nsIn K mainGlobals "list" = some none)
    (N_range : PySem.W.nsIn K mainGlobals "range" = some none)
    (N_sorted : PySem.W.nsIn K mainGlobals "sorted" = some none)
    (N_str : PySem.W.nsIn K mainGlobals "str" = some none)
    (N_tuple : PySem.W.nsIn K mainGlobals "tuple" = some none)
    (N_zip : PySem.W.nsIn K mainGlobals "zip" = some none) :
    ∃ fd : FuncData, (∀ (s : Shared) (v : Value), BindsTo s fd ⟨[v], []⟩ [("_law_script", v)]) ∧ ∀ base : Heap, K.In base → base.Ns mainGlobals mg → FnOk l.prog w K mg base CX0 7 fa fd ["_law_script"] (spLaw K) := by
  have e := hfa.symm.trans (PySem.W.mg_of X G A13)
  cases e
  have F0 := fun_mk (st := s_is_whole) L0 C0 k0
  have F1 := fun_mk (st := s_value_rank) L1 C1 k1
  have F2 := fun_mk (st := s_key_rank) L2 C2 k2
  have F3 := fun_mk (st := s_key_before) L3 C3 k3
  have F4 := fun_mk (st := s_in_order) L4 C4 k4
  have F5 := fun_mk (st := s_law_cell_at) L5 C5 k5
  have F6 := fun_mk (st := s_law_thing) L6 C6 k6
  have F7 := fun_mk (st := s_law_key) L7 C7 k7
  have F8 := fun_mk (st := s_law_keys) L8 C8 k8
  have F9 := fun_mk (st := s_law_value_ahead) L9 C9 k9
  have F10 := fun_mk (st := s_law_ahead) L10 C10 k10
  have F11 := fun_mk (st := s_law_is_key) L11 C11 k11
  have F12 := fun_mk (st := s_law_good) L12 C12 k12
  have F13 := fun_mk (st := s_law) L13 C13 k13
  have T : Tx K mg ⟨a0, _, a1, _, a2, _, a3, _, a4, _, a5, _, a6, _, a7, _, a8, _, a9, _, a10, _, a11, _, a12, _, fa, _⟩ := {
    m0 := PySem.W.mg_of X G A0
    F0 := F0
    b0 := F0.binds fun _ _ _ _ _ _ => us1 fun _  => rfl
    m1 := PySem.W.mg_of X G A1
    F1 := F1
    b1 := F1.binds fun _ _ _ _ _ _ => us1 fun _  => rfl
    m2 := PySem.W.mg_of X G A2
    F2 := F2
    b2 := F2.binds fun _ _ _ _ _ _ => us1 fun _  => rfl
    m3 := PySem.W.mg_of X G A3
    F3 := F3
    b3 := F3.binds fun _ _ _ _ _ _ => us2 fun _ _  => rfl
    m4 := PySem.W.mg_of X G A4
    F4 := F4
    b4 := F4.binds fun _ _ _ _ _ _ => us1 fun _  => rfl
    m5 := PySem.W.mg_of X G A5
    F5 := F5
    b5 := F5.binds fun _ _ _ _ _ _ => us2 fun _ _  => rfl
    m6 := PySem.W.mg_of X G A6
    F6 := F6
    b6 := F6.binds fun _ _ _ _ _ _ => us2 fun _ _  => rfl
    m7 := PySem.W.mg_of X G A7
    F7 := F7
    b7 := F7.binds fun _ _ _ _ _ _ => us2 fun _ _  => rfl
    m8 := PySem.W.mg_of X G A8
    F8 := F8
    b8 := F8.binds fun _ _ _ _ _ _ => us1 fun _  => rfl
    m9 := PySem.W.mg_of X G A9
    F9 := F9
    b9 := F9.binds fun _ _ _ _ _ _ => us2 fun _ _  => rfl
    m10 := PySem.W.mg_of X G A10
    F10 := F10
    b10 := F10.binds fun _ _ _ _ _ _ => us2 fun _ _  => rfl
    m11 := PySem.W.mg_of X G A11
    F11 := F11
    b11 := F11.binds fun _ _ _ _ _ _ => us1 fun _  => rfl
    m12 := PySem.W.mg_of X G A12
    F12 := F12
    b12 := F12.binds fun _ _ _ _ _ _ => us2 fun _ _  => rfl
    m13 := PySem.W.mg_of X G A13
    F13 := F13
    b13 := F13.binds fun _ _ _ _ _ _ => us1 fun _  => rfl
    n_all := PySem.W.mg_none_of X G N_all
    n_bool := PySem.W.mg_none_of X G N_bool
    n_int := PySem.W.mg_none_of X G N_int
    n_isinstance := PySem.W.mg_none_of X G N_isinstance
    n_len := PySem.W.mg_none_of X G N_len
    n_list := PySem.W.mg_none_of X G N_list
    n_range := PySem.W.mg_none_of X G N_range
    n_sorted := PySem.W.mg_none_of X G N_sorted
    n_str := PySem.W.mg_none_of X G N_str
    n_tuple := PySem.W.mg_none_of X G N_tuple
    n_zip := PySem.W.mg_none_of X G N_zip
  }
  exact ⟨_, fun s v => .of_eq rfl, fun base _ _ => law_ok (ok_law T) law_true⟩
theorem walk {l : PySem.W.OpenLaw} {q : Program} {loose : List Str} {XP : (Str → Option Value) → Heap → Prop} {YP : World → Heap → Prop} {d : DefRec} {K : Params → PySem.W.Frag} (hn : l.most = some 63) (hdf : d.params.defaults = [])
    (hY : ∀ (w : World) (h : Heap), YP w h → (K w.params).In h)
    (F : ∀ (w : World) (mg : Str → Option Value) (fa : Addr) (h : Heap), (K w.params).In h → h.Ns mainGlobals mg → mg d.name = some (.ref fa) →
      ∃ fd : FuncData, (∀ (s : Shared) (u : Value), BindsTo s fd ⟨[u], []⟩ [("_law_script", u)]) ∧ ∀ base : Heap, (K w.params).In base → base.Ns mainGlobals mg → FnOk l.prog w (K w.params) mg base CX0 7 fa fd ["_law_script"] (spLaw (K w.params))) :
    PySem.W.WalkO q loose XP YP l.row.toRowW d [] (fun f vs => PySem.call f vs) :=
  L2.walk_of (n := 63) (k := 7) (x := "_law_script") (CX := fun _ => CX0) (sp := fun w => spLaw (K w.params)) hn (by decide) hdf ⟨rfl, by decide, by decide⟩ hY F (fun _ _ a ns hl _ hS => ⟨a, ns, rfl, hS, hl, fun _ => rfl⟩) fun _ _ _ _ _ z => z
end K03
open PySem PySem.W PyProof.Rows
set_option maxRecDepth 100000 in
set_option maxHeartbeats 0 in
theorem PySem.Challenge.cw_cubebook_k03_keys_in_order_holds : PySem.Challenge.rw_cubebook_k03_keys_in_order.Holds := by
  w_on; o_law; k_head; (case hw => w_witness2)
  k_fill
  refine K03.walk (l := PySem.Challenge.rw_cubebook_k03_keys_in_order) rfl rfl (fun w h Y => PySem.W.kIn_of Y) ?F
  case F =>
    intro w mg fa h KX G hmg
    refine' K03.all_mk KX G hmg ?A0 ?L0 ?C0 ?k0 ?A1 ?L1 ?C1 ?k1 ?A2 ?L2 ?C2 ?k2 ?A3 ?L3 ?C3 ?k3 ?A4 ?L4 ?C4 ?k4 ?A5 ?L5 ?C5 ?k5 ?A6 ?L6 ?C6 ?k6 ?A7 ?L7 ?C7 ?k7 ?A8 ?L8 ?C8 ?k8 ?A9 ?L9 ?C9 ?k9 ?A10 ?L10 ?C10 ?k10 ?A11 ?L11 ?C11 ?k11 ?A12 ?L12 ?C12 ?k12 ?A13 ?L13 ?C13 ?k13 ?N_all ?N_bool ?N_int ?N_isinstance ?N_len ?N_list ?N_range ?N_sorted ?N_str ?N_tuple ?N_zip
    (case A0 => k_is)
    (case L0 => k_is)
    (case C0 => k_is)
    (case k0 => k_is)
    (case A1 => k_is)
    (case L1 => k_is)
    (case C1 => k_is)
    (case k1 => k_is)
    (case A2 => k_is)
    (case L2 => k_is)
    (case C2 => k_is)
    (case k2 => k_is)
    (case A3 => k_is)
    (case L3 => k_is)
    (case C3 => k_is)
    (case k3 => k_is)
    (case A4 => k_is)
    (case L4 => k_is)
    (case C4 => k_is)
    (case k4 => k_is)
    (case A5 => k_is)
    (case L5 => k_is)
    (case C5 => k_is)
    (case k5 => k_is)
    (case A6 => k_is)
    (case L6 => k_is)
    (case C6 => k_is)
    (case k6 => k_is)
    (case A7 => k_is)
    (case L7 => k_is)
    (case C7 => k_is)
    (case k7 => k_is)
    (case A8 => k_is)
    (case L8 => k_is)
    (case C8 => k_is)
    (case k8 => k_is)
    (case A9 => k_is)
    (case L9 => k_is)
    (case C9 => k_is)
    (case k9 => k_is)
    (case A10 => k_is)
    (case L10 => k_is)
    (case C10 => k_is)
    (case k10 => k_is)
    (case A11 => k_is)
    (case L11 => k_is)
    (case C11 => k_is)
    (case k11 => k_is)
    (case A12 => k_is)
    (case L12 => k_is)
    (case C12 => k_is)
    (case k12 => k_is)
    (case A13 => k_is)
    (case L13 => k_is)
    (case C13 => k_is)
    (case k13 => k_is)
    (case N_all => k_is)
    (case N_bool => k_is)
    (case N_int => k_is)
    (case N_isinstance => k_is)
    (case N_len => k_is)
    (case N_list => k_is)
    (case N_range => k_is)
    (case N_sorted => k_is)
    (case N_str => k_is)
    (case N_tuple => k_is)
    (case N_zip => k_is)
#print axioms PySem.Challenge.cw_cubebook_k03_keys_in_order_holds
